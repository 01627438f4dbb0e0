/-
 Operations of which the run is known, within a fence.
-/
import Derived.RangeFuncNested
import Derived.RangeFuncBound
import Derived.RangeFuncCalls
import Derived.RangeFuncLeaves
import Derived.RangeFuncFrom
import Derived.RangeFuncBox
import Derived.Shelf.Abstract
import Derived.OwnWalkIn
import Derived.TacticsInMore
import Derived.LoopNIn
import Derived.LoopIn
import Derived.Maps.AppendAt
import Derived.Sort.MapsRangeIn
import Derived.Test.YtfbfdaeagpdaiaaGA
import Derived.Test.YtfbfdaeagpdaiaaDagRow
import Derived.Test.YtfbfdaeagpdaiaaDagHead
set_option maxRecDepth 100000
set_option maxHeartbeats 4000000
namespace Go.Proofs.Ytfbfdaeagpdaiaa
open Go.RowKit Go.Lib
open List renaming setIfInBounds_toArray → sA, set_cons_zero → sB, set_cons_succ → sC
open BigFrame renaming wpList_want → wQ
section
variable {F:Fence} {n:Nat} {P:Program} {ops:Array Oper} {Q:Exit→Act→World→Prop} {a:Act} {w w':World} {rest:List Oper} {o:Oper}
theorem inL_alloc (hg:o.guard = none)(t:TypeId)(ho:o.op = .alloc t){u:Value}(hr:(Instr.alloc t true (.tuple #[])).run P w = .ok u w')(hk:wpListIn F n P ops Q rest (a.put o.dst u) w'):wpListIn F n P ops Q (o :: rest) a w:=by
 refine wpListIn_plain hg fun K hK=>?_
 unfold Oper.wpIn;refine⟨by simp [Oper.about,ho],?_⟩;rw [Oper.semAt_plain F _ _ (by rw [ho]; intro c hc; cases hc)]
 simp [execOp,ho,hr,Result.andThen];exact hK _ _ hk
theorem inL_load (hg:o.guard = none)(ty:TypeId)(x:Operand)(ho:o.op = .load ty x)(g off:Nat)(hx:a.eval x = .pointer (some ⟨g,off,none⟩))(v:Value)(hr:(loadVar ty ⟨g,off,none⟩).run P w = .ok v w)(hk:wpListIn F n P ops Q rest (a.put o.dst v) w):wpListIn F n P ops Q (o :: rest) a w:=by
 refine wpListIn_plain hg fun K hK=>?_
 unfold Oper.wpIn;refine⟨by simp [Oper.about,ho],?_⟩;rw [Oper.semAt_plain F _ _ (by rw [ho]; intro c hc; cases hc)]
 simp [execOp,ho,hx,Instr.loadAt,Instr.sureAddr,hr,Result.andThen];exact hK _ _ hk
theorem inL_store (hg:o.guard = none)(ty:TypeId)(x y:Operand)(ho:o.op = .store ty x y)(hd:o.dst = none)(g off:Nat)(hx:a.eval x = .pointer (some ⟨g,off,none⟩))(v:Value)(hy:a.eval y = v)(hr:(storeVar ty ⟨g,off,none⟩ v).run P w = .ok () w')(hk:wpListIn F n P ops Q rest a w'):wpListIn F n P ops Q (o :: rest) a w:=by
 refine wpListIn_plain hg fun K hK=>?_
 unfold Oper.wpIn;refine⟨by simp [Oper.about,ho],?_⟩;rw [Oper.semAt_plain F _ _ (by rw [ho]; intro c hc; cases hc)]
 simp [execOp,ho,hx,hy,Instr.storeAt,Instr.sureAddr,hr,Result.andThen];have hk':wpListIn F n P ops Q rest (a.put o.dst undef) w':=by rw [hd]; exact hk
 exact hK _ _ hk'
theorem inL_build1 (hg:o.guard = none)(x:Operand)(t:TypeId)(ho:o.op = .buildSlice t 1 #[(0,x)])(cs:Array Value)(hx:a.eval x = .agg cs){u:Value}(hr:(Instr.buildSlice t 1 #[(0,.agg cs)]).run P w = .ok u w')(hk:wpListIn F n P ops Q rest (a.put o.dst u) w'):wpListIn F n P ops Q (o :: rest) a w:=by
 refine wpListIn_plain hg fun K hK=>?_
 unfold Oper.wpIn;refine⟨by simp [Oper.about,ho],?_⟩;rw [Oper.semAt_plain F _ _ (by rw [ho]; intro c hc; cases hc)]
 simp [execOp,ho,hx,hr,Result.andThen];exact hK _ _ hk
end
theorem vxInfoAll15:(Try.prog.info? 36).map (fun i=>(i.zero.map (·.cells.size),i.size,i.bytes)) = some (some 66,66,80):=by kernel_rfl
theorem vx_info15:∃ i z,Try.prog.info? 36 = some i∧i.zero = some z∧z.cells.size = 66∧i.size = 66∧i.bytes = 80:=by
 have h:=vxInfoAll15
 cases hq:Try.prog.info? 36 with
 | none=>rw [hq] at h; cases h
 | some i=>
  rw [hq] at h;simp only [Option.map_some,Option.some.injEq,Prod.mk.injEq] at h
  cases hz:i.zero with
  | none=>rw [hz] at h; cases h.1
  | some z=>
   rw [hz] at h;simp only [Option.map_some,Option.some.injEq] at h;exact⟨i,z,rfl,hz,h.1,h.2.1,h.2.2⟩
theorem store_vx15 (w:World)(v:Vx)(hv:v.Ok):(storeVar 36 ⟨w.heap.size,0,none⟩ (.agg v.cells.toArray)).run Try.prog (w.alloc (.cells Vx.zero.cells.toArray 36)) = .ok () (w.alloc (.cells v.cells.toArray 36)):=
 run_storeVar_new w 36 Vx.zero.cells.toArray v.cells.toArray (vxSize15 hv) (by rw [List.size_toArray,List.size_toArray,Vx.cells_length hv,Vx.cells_length Vx.zero_ok]) (Vx.cells_all v)
def Come (L:List Vx)(left:Lit→Bool)(pre:List Vx):Prop:=(∀ x∈pre,x∈L)∧(Dg.ids pre).Nodup∧∀ l,left l = true↔∃ v∈L,l = .string v.id∧v.id∉Dg.ids pre
theorem Come.start {D:DataW Value}{L:List Vx}(h:Vd D L):Come L (Maps.has D) []:=⟨(by simp),(by simp [Dg.ids]),fun l=>by rw [h.has]; simp [Dg.ids]⟩
theorem Come.step {D:DataW Value}{L:List Vx}{left:Lit→Bool}{pre:List Vx}(h:Come L left pre)(hD:Vd D L){kl:Lit}{y:DataW Value}(hl:left kl = true)(hat:∀ z,D.atKey kl z = y):
  ∃ v∈L,kl = .string v.id∧y = .held v.val∧pre.length < L.length∧Come L (fun z=>left z && !z.sameKey kl) (pre ++ [v]):=by
 obtain⟨v,hv,rfl,hn⟩:=(h.2.2 kl).1 hl;have hy:y = .held v.val:=by rw [← hat (.lit (.bool true)),hD.vals v hv]
 have hnd:(Dg.ids (pre ++ [v])).Nodup:=by
  simp only [Dg.ids,List.map_append,List.map_cons,List.map_nil];rw [List.nodup_append];refine⟨h.2.1,by simp,fun a ha b hb=>?_⟩
  rw [List.mem_singleton] at hb;subst hb;rintro rfl;exact hn ha
 have hsub:∀ x∈pre ++ [v],x∈L:=fun x hx=>by
  rcases List.mem_append.1 hx with hx | hx
  ·exact h.1 x hx
  ·rw [List.mem_singleton] at hx; rw [hx]; exact hv
 refine⟨v,hv,rfl,hy,?_,hsub,hnd,fun l=>?_⟩
 ·have:=List.Nodup.length_le_of_subset (Dg.nodup_of_ids hnd) hsub
  rw [List.length_append,List.length_singleton] at this
  omega
 ·rw [Bool.and_eq_true,h.2.2]
  constructor
  ·rintro ⟨⟨u,hu,rfl,hun⟩,hk⟩
   refine⟨u,hu,rfl,fun hm=>?_⟩
   simp only [Dg.ids,List.map_append,List.map_cons,List.map_nil,List.mem_append,List.mem_singleton] at hm
   rcases hm with hm | hm
   ·exact hun hm
   ·rw [hm,show(Lit.string v.id).sameKey (.string v.id) = true from WideAt.sameKey_self trivial] at hk
    cases hk
  ·rintro ⟨u,hu,rfl,hun⟩
   simp only [Dg.ids,List.map_append,List.map_cons,List.map_nil,List.mem_append,List.mem_singleton,not_or] at hun;refine⟨⟨u,hu,rfl,hun.1⟩,?_⟩;rw [Maps.sameKey_ne (by simpa using hun.2)]
   rfl
theorem Come.done {L:List Vx}{left:Lit→Bool}{pre:List Vx}(h:Come L left pre)(hn:(Dg.ids L).Nodup)(hl:∀ l,left l = false):pre.Perm L:=by
 refine(List.perm_ext_iff_of_nodup (Dg.nodup_of_ids h.2.1) (Dg.nodup_of_ids hn)).2 fun v=>⟨h.1 v,fun hv=>?_⟩
 by_cases hm:v.id∈Dg.ids pre
 ·obtain⟨u,hu,e⟩:=List.mem_map.1 hm
  rw [← Dg.ids_one hn (h.1 u hu) hv e];exact hu
 ·have:=(h.2.2 (.string v.id)).2 ⟨v,hv,rfl,hm⟩
  rw [hl] at this
  cases this
theorem values15 (mb:Option Nat)(w:World):Calls Try.prog 22 #[.map mb] w fun e w'=>e = .returned (.func (.func 28) #[] #[.pointer (some ⟨w.heap.size,0,none⟩)])∧w' = w.alloc (.cells #[.map mb] 46):=by
 go_enter Try.func22,Try.ntmps22
 go_wp2;go_ret;exact⟨rfl,rfl⟩
attribute [local go_sem] Oper.semAt_some
theorem values1_in (m:Nat)(hm:1≤m)(l Bm b nn:Nat)(D0:DataW Value)(L:List Vx)(hD:Vd D0 L)(hnd:(Dg.ids L).Nodup)(hok:∀ v∈L,v.Ok)(J Jx:List VxO→World→Prop)
  (hY:∀ pre x W1,J pre W1→pre.length < L.length→YieldAt Fence.wide (m - 1) Try.prog l #[x.1.val] W1 fun e W'=>
   (e = .returned (.bool true)∧J (pre ++ [x]) W'∧KeepsWalks W1 W')∨(e = .returned (.bool false)∧Jx (pre ++ [x]) W'))
  (W:World) (hJ:AbidesFrom W.heap.size J) (hbm:W.cell? ⟨Bm,0,none⟩ = some (.map (some b))) (hown:W.ownsMap Try.prog 30 vR b nn D0) (h0:J [] W) :
  CallsIn Fence.wide m Try.prog 28 #[.func (.yield l) #[] #[],.pointer (some ⟨Bm,0,none⟩)] W fun e W'=>(∃ v,e = .returned v) ∧
   ((∃ ys:List VxO,(ys.map (·.1)).Perm L∧J ys W')∨(∃ pre:List VxO,True∧Jx pre W')):=by
 refine callsIn_of_wp Try.func28 rfl trivial ?_ rfl
 simp only [Try.ntmps28,List.size_toArray,List.length_cons,List.length_nil,Nat.reduceAdd,Nat.reduceSub,Array.replicate_succ,Array.replicate_zero,List.push_toArray,List.append_toArray,List.nil_append,List.cons_append]
 have HY:=hid hY;have HJ:=hid hJ;have H0:=hid h0;clear hY hJ h0
 gi_wp2_with (first
  | (gi_at_range; refine wpListIn_range_own _ rfl _ 46 rfl 30 36 hash_keyed Try.underlying46 _ b nn _ rfl hown ?_; intro w0 hrg0 hg0 hs0)
  | gi_in)
 go_frame
 gi_loopw [4] (fun _ wr=>∃ (left:Lit→Bool) (cnt:Nat) (ps:List VxO),wr.ranges Try.prog 30 vR b W.heap.size nn D0 left cnt∧Hid (Come L left (ps.map (·.1)))∧Hid (J ps wr))
  (fun _ wr=>wr.rangeLeft b W.heap.size)
 case atStart=>
  exact⟨_,_,[],hrg0,hid (Come.start hD),hid (HJ.out [] W w0 none H0.out hg0 (fun r e=>by cases e))⟩
 case round=>
  obtain⟨left,cnt,ps,hrg,hC,hJs⟩:=hrel
  gi_wp2_with (first
   | (gi_at_next; refine wpListIn_next_ranges _ rfl _ rfl 30 hash_keyed vR (fun l:List UInt8=>Value.agg (bcells l).toArray) Vx.val (fun key kl hk=>by obtain⟨x,_,hx,_⟩:=hash_of_key hk; exact⟨x,hx⟩) (fun v y hv=>by obtain⟨c,_,hc,_⟩:=vR_inv hv; exact⟨c,hc⟩) b W.heap.size nn _ _ _ rfl hrg ?_ ?_)
   | gi_in)
  ·intro hc0 hl0
   gi_wp2
   go_end0
   exact⟨⟨_,rfl⟩,.inl ⟨ps,hC.out.done hnd hl0,hJs.out⟩⟩
  ·intro x c kl yd yp w2 cnt2 hkey hlk hv hat hrg2 hlt hg2 hs2 hen
   obtain⟨v,hvL,rfl,hy,hlen,hC2⟩:=hC.out.step hD hlk hat;obtain⟨c',_,_,hy2⟩:=vR_inv hv
   have hcv:c.val = v.val:=by
    have h1:=congrArg Prod.fst hy2;simp only at h1;rw [hy] at h1;exact(DataW.held.inj h1).symm
   rw [hcv] at hen ⊢;have hJ2:J ps w2:=HJ.out _ wr w2 (some W.heap.size) hJs.out hg2 (fun r e=>by cases e; exact⟨Nat.le_refl _,hrg.iter_walk⟩)
   obtain⟨w3,hw3⟩:∃ x,x = w2.alloc (.cells v.cells.toArray 36):=⟨_,rfl⟩
   have hga:=World.grownBy_alloc w2 (.cells v.cells.toArray 36) none
   have hJ3:J ps w3:=by rw [hw3]; exact HJ.out _ _ _ none hJ2 hga (fun r e=>by cases e)
   have hrg3:=hrg2.kept hga (by simp) (by simp)
   rw [← hw3] at hrg3;obtain⟨fn,tmps,assign,body,hyl,hR⟩:=HY.out ps ⟨v,hok v hvL⟩ w3 hJ3 (by simpa using hlen)
   have hst:=store_vx15 w2 v (hok v hvL);have hld:(loadVar 36 ⟨w2.heap.size,0,none⟩).run Try.prog w3 = .ok (.agg v.cells.toArray) w3:=by rw [hw3]; exact(Vb.new w2 v).all (hok v hvL)
   have hal:=alloc_vx15 w2;rw [← hw3] at hst;unfold Vx.val at hen hyl ⊢;have HC2:=hid hC2;clear hs2 hcv hy hy2 hC2 hat hv hkey hlk hJ2 hJ3;generalize hvc:v.cells.toArray = CC at hen hyl hst hld ⊢;generalize Vx.zero.cells.toArray = ZC at hst hal;clear hw3 hga hvc
   gi_wp2_with (first
    | (refine inL_alloc rfl 36 rfl hal ?_)
    | (refine inL_store rfl 36 _ _ rfl rfl w2.heap.size 0 rfl (.agg CC) rfl hst ?_)
    | (refine inL_load rfl 36 _ rfl w2.heap.size 0 rfl (.agg CC) hld ?_)
    | gi_in)
   refine hR.mono ?_;rintro e W3 (⟨rfl,hJ3,hk3⟩ | ⟨rfl,hJx3⟩)
   ·gi_wp2
    have hrg4:=hrg3.of_walks hk3
    go_roundw
    case rel=>exact⟨_,cnt2,ps ++ [⟨v,hok v hvL⟩],hrg4,hid (by simpa using HC2.out),hid hJ3⟩
    case measure=>rw [hrg4.left_eq,hrg.left_eq]; exact hlt
   ·gi_wp2
    refine bodyPost_ret (results_none rfl _ _ _) rfl ?_;exact⟨⟨_,rfl⟩,.inr ⟨_,trivial,hJx3⟩⟩
theorem values_stops15 (m:Nat)(hm:1≤m)(Bm b nn:Nat)(L:List Vx)(hnd:(Dg.ids L).Nodup)(hok:∀ v∈L,v.Ok)(w:World)(hBm:Bm < w.heap.size)(hbm:w.cell? ⟨Bm,0,none⟩ = some (.map (some b)))(hvp:Vp w b nn L):
  SeqStopsK Fence.wide m Try.prog 28 #[.pointer (some ⟨Bm,0,none⟩)] (fun x:VxO=>#[x.1.val]) KeepsWalks (fun ys=>(ys.map (·.1)).Perm L) (fun _=>True) L.length w:=fun l J Jx W hW hJ _ hY h0=>by
 obtain⟨D0,hown,hD⟩:=hvp;exact values1_in m hm l Bm b nn D0 L hD hnd hok J Jx hY W hJ ((hW.cell (p:=⟨Bm,0,none⟩) hBm).trans hbm) (owns_same hown (hW.block b hown.lt)) h0
end Go.Proofs.Ytfbfdaeagpdaiaa
