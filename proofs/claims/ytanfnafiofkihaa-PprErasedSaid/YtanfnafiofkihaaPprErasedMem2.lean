/-
 What the second half of PprErased wants: a row cut short, a row of the document's built, seeds that stay where facts are noted.
-/
import Derived.Test.YtanfnafiofkihaaQF
import Derived.Test.YtanfnafiofkihaaQA
set_option maxRecDepth 100000
namespace Go.Proofs.Ytanfnafiofkihaa
open Go.RowKit Go.Lib
open List renaming setIfInBounds_toArray -> sA, set_cons_zero -> sB, set_cons_succ -> sC
open BigFrame renaming wpList_want -> wQ
theorem Gones.kept2 {w w':World}{v:Value}{P:List Nat}(h:Gones w v P)(k:Kept w.heap.size w.heap.size w w'):Gones w' v P:=by
 obtain⟨ad,c,g,o,rfl,h1⟩:=h;refine⟨ad,c,g,o,rfl,λi hi=>?_⟩
 obtain⟨a,b,d⟩:=h1 i hi;exact⟨a,Nat.lt_of_lt_of_le b k.size,(k.cell (p:=⟨g,o + i,none⟩) b (Nat.ne_of_lt b)).trans d⟩
theorem OwnI.cut {w:World}{base:Nat}{T:Value}{P:List Nat}(h:OwnI w base T P){k:Nat}(hk:k < P.length):∃ g c,T = .slice (some ⟨g,0,none⟩) P.length c/\(∀ u,(Instr.sliceAt 58 T none (some (.int .i64 (k:Int))) none).run Try.prog u = .ok (.slice (some ⟨g,0,none⟩) k c) u)/\Gones w (.slice (some ⟨g,0,none⟩) k c) (P.take k)/\g < w.heap.size/\w.cell? ⟨g,k,none⟩ = some (.int .i64 (P[k]:Int)):=by
 have hg:=h.gones
 rcases h.2 with ⟨_,hn⟩ | ⟨g,cap,cur,rfl,_,_,hnc,_⟩
 ·omega
 ·refine⟨g,cap,rfl,λu=>?_,?_⟩
  ·obtain⟨i,z,hi,hz,hzs,hs,hby⟩:=int_info
   have hu:=Try.underlying58
   have hq:k<=cap:=by omega
   have h0:cap≠0:=by omega
   simp [Instr.sliceAt,Instr.slice,run_underlying hu,Instr.sliceBounds,Instr.sliceBound,asIntOf,sizeOf,typeInfo,hi,h0,hq,Result.andThen];rw [Addr.add_lit]
  ·obtain⟨ad,c,g2,o,e,hc⟩:=hg
   injection e with e1 e2 e3
   obtain⟨b1,b2,b3⟩:=hc k (by simpa using hk)
   have e4:=e1.trans b1;injection e4 with e4
   injection e4 with e5 e6 _
   subst e5 e6;refine⟨?_,b2,by simpa using b3⟩
   refine⟨some ⟨g,0,none⟩,cap,g,0,by simp; omega,λi hi=>?_⟩
   have hi2:i < k/\i < P.length:=by
    have h9:i < min k P.length:=by simpa using hi
    omega
   obtain⟨a1,a2,a3⟩:=hc i (by simpa using hi2.2)
   refine⟨e1.trans a1,a2,?_⟩
   simpa using a3
theorem build_refRow3 (w:World)(l:List UInt8)(hl:l.length = 32)(bits g k c:Nat):(Instr.build 60 #[(0,.agg (bcells l).toArray),(1,.int .i64 (bits:Int)),(2,.slice (some ⟨g,0,none⟩) k c)]).run Try.prog w = .ok (.agg (refRow l bits (.slice (some ⟨g,0,none⟩) k c))) w:=by
 generalize (bits:Int) = n
 revert l
 refine list32 ?_
 intros
 kernel_rfl
theorem OwnR.noted {w w':World}{base:Nat}{v:Value}{L:List Sd}(h:OwnR w base v L)(hs:StayG 35 w w'):OwnR w' base v L:=by
 have hc:=λk hk=>rowCells h.2 k hk
 refine⟨h.1,h.2.1,?_⟩
 rcases h.2.2 with h1 | ⟨g,cap,cur,rfl,hb2,hh,rest⟩
 ·exact .inl h1
 ·exact .inr ⟨g,cap,cur,rfl,hb2,hs.cells hh (by decide),rest⟩
theorem Ne.c33 {w0 wr:World}{l:List UInt8}{n rb mb wa bb b2 nn:Nat}{fB:Facts}{R P:List Nat}{T kv sl:Value}{K:List (List UInt8)}(h:Ne w0 wr l n rb mb wa bb b2 nn fB R P T kv sl K)(hl:l.length = 32):wr.cell? ⟨mb,33,none⟩ = some T:=by
 have hm:=h.m;rw [refRow] at hm;rw [cells_at hm 33 (by simp [bcells_length,hl])]
 simp [List.getElem_append_right,bcells_length,hl]
theorem yieldsIf_build3 {P:Program}{ops:Array Oper}{S:World->Prop}{a:Act}{op:Oper}(hw:Region.wanted op (yielded ops a.tmps) = true)(t:TypeId)(x y z:Operand)(ho:op.op = .build t #[(0,x),(1,y),(2,z)])(a1 a2 a3 u:Value)(h1:a.eval x = a1)(h2:a.eval y = a2)(h3:a.eval z = a3)(hr:∀ w,(Instr.build t #[(0,a1),(1,a2),(2,a3)]).run P w = .ok u w):YieldsIf P ops S op u a:=
 .inl ⟨hw,λw _=>by
  unfold execOp
  simp only [ho,List.map_toArray,List.map_cons,List.map_nil,h1,h2,h3,Sem.run_bind,hr,Result.andThen_ok,Sem.run_pure]⟩
theorem yieldsIf_cut {P:Program}{ops:Array Oper}{S:World->Prop}{a:Act}{op:Oper}(hw:Region.wanted op (yielded ops a.tmps) = true)(t:TypeId)(x hi:Operand)(ho:op.op = .slice t x none (some hi) none)(u v r:Value)(hx:a.eval x = u)(hh:a.eval hi = v)(hr:∀ w,(Instr.sliceAt t u none (some v) none).run P w = .ok r w):YieldsIf P ops S op r a:=
 .inl ⟨hw,λw _=>by
  unfold execOp
  simp only [ho,hx,hh,Option.map_some,Option.map_none,Sem.run_bind,hr w,Result.andThen_ok,Sem.run_pure]⟩
end Go.Proofs.Ytanfnafiofkihaa
