/-
 What the law DagOrders carries: a row of one's own, two stores.
-/
import Derived.Test.YtfbfdaeagpdaiaaDagHeadMem
import Derived.Test.YtfbfdaeagpdaiaaGA
set_option maxRecDepth 100000
namespace Go.Proofs.Ytfbfdaeagpdaiaa
open Go.RowKit Go.Lib
open List renaming setIfInBounds_toArray → sA, set_cons_zero → sB, set_cons_succ → sC
open BigFrame renaming wpList_want → wQ
theorem part_of15 (A B C:List Value)(cs:List Value)(hcs:cs = A ++ (B ++ C))(o n:Nat)(ho:o = A.length)(hn:n = B.length):cs.toArray.extract o (o + n) = B.toArray:=by
 subst hcs ho hn;apply Array.ext';simp
theorem isAgg_int15 (w:World):(isAgg 3).run Try.prog w = .ok false w:=by kernel_rfl
theorem isAgg_hash15 (w:World):(isAgg 30).run Try.prog w = .ok true w:=by kernel_rfl
theorem part_int15 (w:World)(cs:Array Value)(o:Nat)(v:Value)(h:cs[o]? = some v):(part 3 cs o).run Try.prog w = .ok v w:=by
 simp only [part,Sem.run_bind,isAgg_int15,Result.andThen_ok,Bool.false_eq_true,if_false,h]
 rfl
theorem part_hash15 (w:World)(cs:Array Value)(o:Nat)(l:List UInt8)(h:cs.extract o (o + 32) = (bcells l).toArray):(part 30 cs o).run Try.prog w = .ok (.agg (bcells l).toArray) w:=by
 simp only [part,Sem.run_bind,isAgg_hash15,Result.andThen_ok,if_true,Try.sizeOf30,h]
 rfl
theorem vxGuard15:Try.prog.eqGuardType Try.prog.depth 36 = false:=by kernel_rfl
theorem vx_equalIn15 (w:World)(v:Vx)(h:v.Ok):(Op.equalIn 10000 36 (.agg v.cells.toArray) (.agg v.cells.toArray)).run Try.prog w = .ok true w:=by
 have hs:Try.prog.stoodInHeld 36 = false:=by kernel_rfl
 have e0:∀ n w,(Op.equalIn 9999 3 (.int .i64 n) (.int .i64 n)).run Try.prog w = .ok true w:=fun n w=>by
  have:=run_equalIn_int (P:=Try.prog) w 9998 3 .i64 .i64 n n Try.underlying3
  rwa [beq_self_eq_true] at this
 have eh:∀ x:List UInt8,x.length = 32→∀ w,(Op.equalIn 9999 30 (.agg (bcells x).toArray) (.agg (bcells x).toArray)).run Try.prog w = .ok true w:=fun x hx w=>by
  have:=run_equalIn_bytes (P:=Try.prog) w 9997 30 5 32 Try.underlying30 Try.underlying5 (fun w=>Try.sizeOf5 w) x x hx hx
  rwa [beq_self_eq_true] at this
 have p0:=fun w=>part_hash15 w v.cells.toArray 0 v.id (part_of15 [] (bcells v.id) _ v.cells rfl 0 32 rfl (by rw [bcells_length,h.1]))
 have p1:=fun w=>part_hash15 w v.cells.toArray 32 v.par (part_of15 (bcells v.id) (bcells v.par) _ v.cells rfl 32 32 (by rw [bcells_length,h.1]) (by rw [bcells_length,h.2]))
 have p2:=fun w=>part_int15 w v.cells.toArray 64 (.int .i64 v.dep) (by rw [List.getElem?_toArray]; exact vx_tail h 0)
 have p3:=fun w=>part_int15 w v.cells.toArray 65 (.int .i64 v.dat) (by rw [List.getElem?_toArray]; exact vx_tail h 1)
 have e1:=eh _ h.1;have e2:=eh _ h.2;rw [Op.equalIn];simp only [Sem.run_bind,run_underlying Try.underlying36,Result.andThen_ok,run_program,hs,Bool.false_eq_true,if_false]
 simp only [List.forIn_toArray,List.forIn_cons,List.forIn_nil,Sem.run_bind,ne_eq,String.reduceEq,not_false_eq_true,if_true];simp [p0,p1,p2,p3,e0,e1,e2]
theorem yieldsIf_neq15 {P:Program}{ops:Array Oper}{S:World→Prop}{op:Oper}{a:Act}(hw:Region.wanted op (yielded ops a.tmps) = true)(t t2:TypeId)(x y:Operand)(ho:op.op = .binOp .neq t x y t2)(A B:Array Value)(hx:a.eval x = .agg A)(hy:a.eval y = .agg B)(hg:P.eqGuardType P.depth t = false)(hr:∀ w,(Op.equalIn 10000 t (.agg A) (.agg B)).run P w = .ok true w):YieldsIf P ops S op (.bool false) a:=
 .inl ⟨hw,fun w _=>by
  unfold execOp
  simp [ho,hx,hy,Sem.run_bind,run_eqGuard_agg _ _ _ _ _ _ _ hg,run_neq_struct,hr,Result.andThen_ok]⟩
abbrev T32_15:TypeId:=32
theorem rvInfoAll15:(Try.prog.info? 32).map (fun i=>(i.zero.map (·.cells.size),i.size,i.bytes)) = some (some 66,66,80):=by kernel_rfl
theorem rv_info15:∃ i z,Try.prog.info? 32 = some i∧i.zero = some z∧z.cells.size = 66∧i.size = 66∧i.bytes = 80:=by
 have h:=rvInfoAll15
 cases hq:Try.prog.info? 32 with
 | none=>rw [hq] at h; cases h
 | some i=>
  rw [hq] at h;simp only [Option.map_some,Option.some.injEq,Prod.mk.injEq] at h
  cases hz:i.zero with
  | none=>rw [hz] at h; cases h.1
  | some z=>
   rw [hz] at h;simp only [Option.map_some,Option.some.injEq] at h;exact⟨i,z,rfl,hz,h.1,h.2.1,h.2.2⟩
theorem rvInfo15:(Try.prog.info? 32).map (·.size) = some 66:=by kernel_rfl
def Mv (w:World)(mg:Nat)(R:List Vx)(rest:List Value):Prop:=w.heap[mg]? = some (.cells (vflat R ++ rest).toArray 32 (0,0))
section
variable {w w':World} {mg:Nat} {R:List Vx} {rest:List Value}
theorem Mv.kept (h:Mv w mg R rest)(k:Kept w.heap.size w.heap.size w w'):Mv w' mg R rest:=row_kept h k
theorem Mv.range (h:Mv w mg R rest)(hR:∀ x∈R,x.Ok)(i:Nat)(hi:i < R.length):w.rangeAt mg (i * 66) R[i].cells:=fun j u hu=>by
 have hx:=Vx.cells_length (hR R[i] (List.getElem_mem hi))
 have hj:j < 66:=by
  rcases Nat.lt_or_ge j 66 with h1 | h1
  ·exact h1
  ·rw [List.getElem?_eq_none (by rw [hx]; exact h1)] at hu; cases hu
 refine cells_get h ?_;rw [List.getElem?_append_left (by rw [vflat_length R hR]; omega),vflat_at R hR i hi j hj]
 exact hu
theorem Mv.load (h:Mv w mg R rest)(hR:∀ x∈R,x.Ok)(i:Nat)(hi:i < R.length):(loadVar 32 ⟨mg,i * 66,none⟩).run Try.prog w = .ok (.agg (R[i].cells).toArray) w:=
 run_loadVar_mid w mg (i * 66) 32 _ _ (h.range hR i hi) Try.underlying32 rfl (by rw [rvInfo15,Vx.cells_length (hR R[i] (List.getElem_mem hi))])
theorem Mv.there (h:Mv w mg R rest)(hR:∀ x∈R,x.Ok)(i:Nat)(hi:i < R.length):w.there mg (i * 66) 66:=fun j hj=>by
 have hx:=Vx.cells_length (hR R[i] (List.getElem_mem hi));have h1:=h.range hR i hi j (R[i].cells[j]'(by omega)) (List.getElem?_eq_getElem (by omega))
 exact⟨by rw [h1]; rfl,by simp [World.frozen?,show w.heap[mg]? = _ from h]⟩
theorem Mv.set (h:Mv w mg R rest)(hR:∀ x∈R,x.Ok)(i:Nat)(hi:i < R.length)(v:Vx)(hv:v.Ok):Mv (w.setCells mg (i * 66) v.cells) mg (R.set i v) rest∧(∀ k,k≠mg→(w.setCells mg (i * 66) v.cells).heap[k]? = w.heap[k]?)∧(w.setCells mg (i * 66) v.cells).heap.size = w.heap.size∧(w.setCells mg (i * 66) v.cells).os = w.os∧(w.setCells mg (i * 66) v.cells).tape = w.tape∧(w.setCells mg (i * 66) v.cells).output = w.output:=by
 have hsplit:vflat R ++ rest = vflat (R.take i) ++ ((R[i]).cells ++ (vflat (R.drop (i + 1)) ++ rest)):=by
  have e:R = R.take i ++ (R[i] :: R.drop (i + 1)):=by rw [← List.drop_eq_getElem_cons hi,List.take_append_drop]
  have e2:vflat R = vflat (R.take i) ++ ((R[i]).cells ++ vflat (R.drop (i + 1))):=by
   have e3:vflat (R.take i ++ (R[i] :: R.drop (i + 1))) = vflat (R.take i) ++ ((R[i]).cells ++ vflat (R.drop (i + 1))):=by
    rw [vflat_append]
    rfl
   rw [← e3,← e]
  rw [e2,List.append_assoc,List.append_assoc]
 have hl:(vflat (R.take i)).length = i * 66:=by
  rw [vflat_length _ (fun x hx=>hR x (List.mem_of_mem_take hx)),List.length_take]
  rw [Nat.min_eq_left (by omega)]
 have h0:w.heap[mg]? = some (.cells (vflat (R.take i) ++ ((R[i]).cells ++ (vflat (R.drop (i + 1)) ++ rest))).toArray 32 (0,0)):=by rw [← hsplit]; exact h
 have h1:=setCells15 v.cells (vflat (R.take i)) (R[i]).cells (vflat (R.drop (i + 1)) ++ rest) w (by rw [Vx.cells_length hv,Vx.cells_length (hR R[i] (List.getElem_mem hi))]) h0
 rw [hl] at h1;obtain⟨a1,a2,a3,a4,a5,a6⟩:=h1;refine⟨?_,a2,a3,a4,a5,a6⟩
 have e:vflat (R.set i v) ++ rest = vflat (R.take i) ++ (v.cells ++ (vflat (R.drop (i + 1)) ++ rest)):=by
  rw [List.set_eq_take_append_cons_drop,if_pos hi,vflat_append];simp [vflat]
 unfold Mv;rw [e];exact a1
end
theorem copy15 (W:World)(lv:Value)(M:List Vx)(hM:Va W lv M)(hl:M.length≤60):∃ mg mc rest w',(Builtin.append_ #[22,22] 22 #[.slice (some ⟨W.heap.size,0,none⟩) 0 0,lv]).run Try.prog (W.alloc (.cells #[] 32)) = .ok (.slice (some ⟨mg,0,none⟩) M.length mc) w'∧Mv w' mg M rest∧W.heap.size≤mg∧Kept W.heap.size W.heap.size W w':=by
 obtain⟨i,z,hi,hz,hzs,hs,hby⟩:=rv_info15;have hu:Try.prog.underlying 22 = some (.slice 32):=Try.underlying22
 obtain⟨hok,ad,g,o,c,rfl,hel⟩:=hM;have k1:Kept W.heap.size W.heap.size W (W.alloc (.cells #[] 32)):=(Kept.refl _ _ _).alloc (Nat.le_refl _) _
 have hn:=heap_new W (.cells #[] 32)
 cases ad with
 | none=>
  have h0:M = []:=by
   cases M with
   | nil=>rfl
   | cons x M=>
    obtain⟨e,_⟩:=hel 0 (by simp)
    cases e
  subst h0;refine⟨W.heap.size,0,[],_,?_,hn,Nat.le_refl _,k1⟩;simp [Builtin.append_,run_underlying hu,sizeOf,typeInfo,hi,hs,Builtin.lenOf,Builtin.firstCells,storeCells,Result.andThen]
 | some a=>
  have hown:(W.alloc (.cells #[] 32)).ownsRow W.heap.size 32 66 (.slice (some ⟨W.heap.size,0,none⟩) 0 0) 0 []:=⟨rfl,.inr ⟨W.heap.size,0,#[],rfl,Nat.le_refl _,hn,Nat.le_refl _,Nat.zero_le _,rfl,rfl⟩⟩
  obtain⟨v',w',hrun,hrow,hgr,hnil⟩:=run_append_own (P:=Try.prog) (W.alloc (.cells #[] 32)) W.heap.size 22 22 32 i z 66 80 hu hi hz hs hby hzs (by decide) _ 0 [] hown a M.length c (vflat M) (vflat_length M hok) (fun j u hj=>by
   have hjl:j < M.length * 66:=by
    rw [← vflat_length M hok];exact(List.getElem?_eq_some_iff.1 hj).1
   have hi2:j / 66 < M.length:=by omega
   obtain⟨e,hg,hr⟩:=hel (j / 66) hi2;injection e with e
   subst e;have h1:=vflat_at M hok (j / 66) hi2 (j % 66) (Nat.mod_lt _ (by decide))
   rw [show j / 66 * 66 + j % 66 = j by omega,hj] at h1
   have h2:=(rangeAt_kept k1 hr hg (Nat.ne_of_lt hg)) (j % 66) u h1.symm;rw [Addr.add_lit]
   rwa [show o + j / 66 * 66 + j % 66 = o + j by omega] at h2) (vflat_one M) (by rw [Nat.zero_add]; exact Nat.le_trans hl (by decide)) (by omega) (by simp)
  rw [Nat.zero_add,List.nil_append] at hrow
  rcases hrow.2 with ⟨h9,_⟩ | ⟨mg,cap,cur,rfl,hb,hh,_,_,hcs,htk⟩
  ·have:=(hnil.1 h9).1
   cases this
  ·refine⟨mg,cap,cur.toList.drop (M.length * 66),w',hrun,?_,hb,?_⟩
   ·unfold Mv
    rw [← htk,List.take_append_drop];exact hh
   ·refine⟨hgr.os.trans k1.os,hgr.tape.trans k1.tape,hgr.output.trans k1.output,Nat.le_trans k1.size hgr.size,fun j hj _=>(hgr.block j (by simp; omega) (fun e=>?_)).trans (k1.block j hj (Nat.ne_of_lt hj))⟩
    simp [Value.ownBlock] at e
    omega
def Bs15 (w:World)(v:Value)(n:Nat):Prop:=∃ ad g o c,v = .slice ad n c∧∀ i,i < n→∃ b:Int,ad = some ⟨g,o,none⟩∧g < w.heap.size∧w.cell? ⟨g,o + i,none⟩ = some (.int .u8 b)∧0≤b∧b≤255
structure OrI (w wr:World) (rb cb sa sb mg:Nat) (keep:Int) (ia ib:Nat) (R:List Vx) (rest:List Value) (na nb:Nat) (Fa Fb:Nat→Prop) (A B:List Vx) (x y:Option Vx) (Pa Pb:List (List UInt8)):Prop where
 res:Boxed wr rb 4 (.bool false)
 box:Boxed wr cb 25 (.pointer (some ⟨sb,0,none⟩))
 row:Mv wr mg R rest
 da:Dst wr sa Fa keep na A x Pa
 db:Dst wr sb Fb keep nb B y Pb
 sta:Dg.St keep A x
 stb:Dg.St keep B y
 nla:na≤ia
 nlb:nb≤ib
 olda:∀ k,Fa k→w.heap.size≤k∧k≠rb∧k≠cb∧k≠mg∧¬ Fb k
 oldb:∀ k,Fb k→w.heap.size≤k∧k≠rb∧k≠cb∧k≠mg
 new:w.heap.size≤rb
 newm:w.heap.size≤mg
 kp:Kept w.heap.size w.heap.size w wr
section
variable {w wr w':World} {rb cb sa sb mg ia ib na nb:Nat} {keep:Int} {R:List Vx} {rest:List Value} {Fa Fb:Nat→Prop} {A B:List Vx} {x y:Option Vx} {Pa Pb:List (List UInt8)}
theorem OrI.kept (H:OrI w wr rb cb sa sb mg keep ia ib R rest na nb Fa Fb A B x y Pa Pb)(k:Kept wr.heap.size wr.heap.size wr w'):OrI w w' rb cb sa sb mg keep ia ib R rest na nb Fa Fb A B x y Pa Pb:=
 ⟨row_kept H.res k,row_kept H.box k,H.row.kept k,H.da.kept k,H.db.kept k,H.sta,H.stb,H.nla,H.nlb,H.olda,H.oldb,H.new,H.newm,H.kp.onto k⟩
theorem OrI.insA (H0:OrI w wr rb cb sa sb mg keep ia ib R rest na nb Fa Fb A B x y Pa Pb){u:World}(k:Kept wr.heap.size wr.heap.size wr u){v:Vx}(hv:v.Ok){e:Ending}(hI:InsP u sa Fa keep na A x Pa v e w'):
  ∃ (s:Value) (er:Int) (na':Nat) (Fa':Nat→Prop) (A':List Vx) (x':Option Vx) (Pa':List (List UInt8)),e = .returned (.tuple #[s,.int .i64 er])∧OrI w w' rb cb sa sb mg keep (ia + 1) ib R rest na' nb Fa' Fb A' B x' y Pa' Pb∧(er = 0→∀ l,Dg.Reach keep l A x→Dg.Reach keep (l ++ [v]) A' x'):=by
 have H:=H0.kept k;obtain⟨hk1,hk2⟩:=H.da.keeps;obtain⟨F',h1,h2,h3⟩:=hI;have hr:=lt_of_block H.res;have hc:=lt_of_block H.box;have hm:=lt_of_block H.row;have hsz:=H.kp.size;have hfb:∀ i,Fb i→¬ Fa i:=fun i hb ha=>(H.olda i ha).2.2.2.2 hb
 have hnew:∀ k,F' k→w.heap.size≤k∧k≠rb∧k≠cb∧k≠mg∧¬ Fb k:=fun k hk=>by
  rcases h1 k hk with h | h
  ·exact H.olda k h
  ·refine⟨by omega,?_,?_,?_,fun hb=>?_⟩
   ·rintro rfl; omega
   ·rintro rfl; omega
   ·rintro rfl; omega
   ·have:=H.db.fsize k hb
    omega
 have base:∀ (n':Nat) (A':List Vx) (x':Option Vx) (Pa':List (List UInt8)),Dst w' sa F' keep n' A' x' Pa'→Dg.St keep A' x'→n'≤ia + 1→OrI w w' rb cb sa sb mg keep (ia + 1) ib R rest n' nb F' Fb A' B x' y Pa' Pb:=fun n' A' x' Pa' hd hst hn=>
  ⟨(h2.block rb hr (fun hf=>(H.olda rb hf).2.1 rfl)).trans H.res,(h2.block cb hc (fun hf=>(H.olda cb hf).2.2.1 rfl)).trans H.box,(h2.block mg hm (fun hf=>(H.olda mg hf).2.2.2.1 rfl)).trans H.row,hd,H.db.far h2 hfb,hst,H.stb,hn,H.nlb,hnew,H.oldb,H.new,H.newm,far15 H.kp h2 (fun k hk=>(H.olda k hk).1)⟩
 rcases h3 with ⟨er,her,rfl,hn,hd⟩ | ⟨ad,ln,c,rfl,rfl,hn,hd⟩
 ·exact⟨_,er,na,F',A,x,Pa,rfl,base _ _ _ _ hd H.sta (by have:=H.nla; omega),fun h=>absurd h her⟩
 ·exact⟨_,0,na + 1,F',_,_,_,rfl,base _ _ _ _ hd (H.sta.insert (by omega) hv hn.1 hn.2.1 hn.2.2.1) (by have:=H.nla; omega),fun _ l hl=>hl.step (by omega) hv hn.1 hn.2.1 hn.2.2.1⟩
theorem OrI.insB (H0:OrI w wr rb cb sa sb mg keep ia ib R rest na nb Fa Fb A B x y Pa Pb){u:World}(k:Kept wr.heap.size wr.heap.size wr u){v:Vx}(hv:v.Ok){e:Ending}(hI:InsP u sb Fb keep nb B y Pb v e w'):
  ∃ (s:Value) (er:Int) (nb':Nat) (Fb':Nat→Prop) (B':List Vx) (y':Option Vx) (Pb':List (List UInt8)),e = .returned (.tuple #[s,.int .i64 er])∧OrI w w' rb cb sa sb mg keep ia (ib + 1) R rest na nb' Fa Fb' A B' x y' Pa Pb'∧(er = 0→∀ l,Dg.Reach keep l B y→Dg.Reach keep (l ++ [v]) B' y'):=by
 have H:=H0.kept k;obtain⟨hk1,hk2⟩:=H.db.keeps;obtain⟨F',h1,h2,h3⟩:=hI;have hr:=lt_of_block H.res;have hc:=lt_of_block H.box;have hm:=lt_of_block H.row;have hsz:=H.kp.size;have hfa:∀ i,Fa i→¬ Fb i:=fun i ha=>(H.olda i ha).2.2.2.2
 have hnew:∀ k,F' k→w.heap.size≤k∧k≠rb∧k≠cb∧k≠mg:=fun k hk=>by
  rcases h1 k hk with h | h
  ·exact H.oldb k h
  ·refine⟨by omega,?_,?_,?_⟩
   ·rintro rfl; omega
   ·rintro rfl; omega
   ·rintro rfl; omega
 have hna:∀ k,Fa k→w.heap.size≤k∧k≠rb∧k≠cb∧k≠mg∧¬ F' k:=fun k hk=>by
  obtain⟨a,b,c,d,e⟩:=H.olda k hk;refine⟨a,b,c,d,fun hf=>?_⟩
  rcases h1 k hf with h | h
  ·exact e h
  ·have:=H.da.fsize k hk
   omega
 have base:∀ (n':Nat) (B':List Vx) (y':Option Vx) (Pb':List (List UInt8)),Dst w' sb F' keep n' B' y' Pb'→Dg.St keep B' y'→n'≤ib + 1→OrI w w' rb cb sa sb mg keep ia (ib + 1) R rest na n' Fa F' A B' x y' Pa Pb':=fun n' B' y' Pb' hd hst hn=>
  ⟨(h2.block rb hr (fun hf=>(H.oldb rb hf).2.1 rfl)).trans H.res,(h2.block cb hc (fun hf=>(H.oldb cb hf).2.2.1 rfl)).trans H.box,(h2.block mg hm (fun hf=>(H.oldb mg hf).2.2.2 rfl)).trans H.row,H.da.far h2 hfa,hd,H.sta,hst,H.nla,hn,hna,hnew,H.new,H.newm,far15 H.kp h2 (fun k hk=>(H.oldb k hk).1)⟩
 rcases h3 with ⟨er,her,rfl,hn,hd⟩ | ⟨ad,ln,c,rfl,rfl,hn,hd⟩
 ·exact⟨_,er,nb,F',B,y,Pb,rfl,base _ _ _ _ hd H.stb (by have:=H.nlb; omega),fun h=>absurd h her⟩
 ·exact⟨_,0,nb + 1,F',_,_,_,rfl,base _ _ _ _ hd (H.stb.insert (by omega) hv hn.1 hn.2.1 hn.2.2.1) (by have:=H.nlb; omega),fun _ l hl=>hl.step (by omega) hv hn.1 hn.2.1 hn.2.2.1⟩
theorem OrI.turn (H:OrI w wr rb cb sa sb mg keep ia ib R rest na nb Fa Fb A B x y Pa Pb)(hR:∀ x∈R,x.Ok)(i:Nat)(hi:i < R.length)(v:Vx)(hv:v.Ok):OrI w (wr.setCells mg (i * 66) v.cells) rb cb sa sb mg keep ia ib (R.set i v) rest na nb Fa Fb A B x y Pa Pb:=by
 obtain⟨h1,h2,h3,h4,h5,h6⟩:=H.row.set hR i hi v hv
 have n1:rb≠mg:=by
  rintro rfl;have:=(show wr.heap[rb]? = _ from H.res).symm.trans H.row;simp at this
 have n2:cb≠mg:=by
  rintro rfl;have:=(show wr.heap[cb]? = _ from H.box).symm.trans H.row;simp at this
 obtain⟨va,ba,ha,da⟩:=H.da;obtain⟨vb,bb,hb,db⟩:=H.db
 exact⟨(h2 rb n1).trans H.res,(h2 cb n2).trans H.box,h1,⟨va,ba,ha,da.same (Nat.le_of_eq h3.symm) (fun k hk=>h2 k (H.olda k hk).2.2.2.1)⟩,⟨vb,bb,hb,db.same (Nat.le_of_eq h3.symm) (fun k hk=>h2 k (H.oldb k hk).2.2.2)⟩,H.sta,H.stb,H.nla,H.nlb,H.olda,H.oldb,H.new,H.newm,
  ⟨h4.trans H.kp.os,h5.trans H.kp.tape,h6.trans H.kp.output,by rw [h3]; exact H.kp.size,fun k hk hn=>(h2 k (by have:=H.newm; omega)).trans (H.kp.block k hk hn)⟩⟩
end
theorem alloc_rv15 (w:World):(Instr.alloc 32 true (.tuple #[])).run Try.prog w = .ok (.pointer (some ⟨w.heap.size,0,none⟩)) (w.alloc (.cells Vx.zero.cells.toArray 32)):=by kernel_rfl
theorem build_none15 (w:World):(Instr.buildSlice 22 0 #[]).run Try.prog w = .ok (.slice (some ⟨w.heap.size,0,none⟩) 0 0) (w.alloc (.cells #[] 32)):=by kernel_rfl
theorem wpList_build_run15 {P:Program}{ops:Array Oper}{rest:List Oper}{o:Oper}{a:Act}{w w':World}{Q:Exit→Act→World→Prop}(hgd:o.guard = none)(t:TypeId)(n:Nat)(ho:o.op = .buildSlice t n #[]){r:Value}(hr:(Instr.buildSlice t n #[]).run P w = .ok r w')(hk:wpList P ops Q rest (a.put o.dst r) w'):wpList P ops Q (o :: rest) a w:=by
 refine wpList_plain hgd fun K hK=>?_
 unfold Oper.wp execOp;simp only [ho,List.map_toArray,List.map_nil,Sem.run_bind,hr,Result.andThen_ok,Sem.run_pure];exact hK _ _ hk
theorem load_u8_15 {w:World}{g o:Nat}{x:Int}(h:w.cell? ⟨g,o,none⟩ = some (.int .u8 x)):(loadVar 5 ⟨g,o,none⟩).run Try.prog w = .ok (.int .u8 x) w:=by
 go_simp
theorem tmod_at15 {a:Int}{n:Nat}(h0:0≤a)(hn:0 < n):∃ q:Nat,(q:Int) = a.tmod (n:Int)∧q < n:=by
 refine⟨(a.tmod n).toNat,?_,?_⟩
 ·have:=Int.tmod_nonneg (n:Int) h0
  omega
 ·have h1:=Int.tmod_eq_emod_of_nonneg (b:=(n:Int)) h0
  have h2:=Int.emod_lt_of_pos a (show(0:Int) < (n:Int) by omega)
  omega
end Go.Proofs.Ytfbfdaeagpdaiaa
