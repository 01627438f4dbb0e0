/-
 The landed All: the vertices of a store, ranged over.
-/
import Derived.Test.YtfbfdaeagpdaiaaDagSorted
set_option maxRecDepth 100000
set_option maxHeartbeats 4000000
namespace Go.Proofs.Ytfbfdaeagpdaiaa
open Go.RowKit Go.Shelf Go.Lib
structure KC (W W':World):Prop where
 size:W.heap.size≤W'.heap.size
 same:∀ (k:Nat) (o:Obj),W.heap[k]? = some o→o.isCells = true→W'.heap[k]? = some o
theorem KC.t {A B C:World}(h:KC A B)(k:KC B C):KC A C:=⟨Nat.le_trans h.size k.size,fun i o h1 h2=>k.same i o (h.same i o h1 h2) h2⟩
theorem KC.b {w:World}(W:World)(l:Nat)(o o':Obj)(_:w.heap.size≤l)(h:W.heap[l]? = some o)(hc:o.isCells = false)(_:o.isWalk = false):KC W (W.putObj l o'):=
 ⟨by simp,fun k x hx hc2=>by
  by_cases hk:k = l
  ·subst hk
   rw [h] at hx
   cases hx
   rw [hc] at hc2
   cases hc2
  ·exact(World.putObj_heap_other hk).trans hx⟩
theorem KC.of_kept {W W':World}(h:Kept W.heap.size W.heap.size W W'):KC W W':=⟨h.size,fun _ _ hk _=>rk hk h⟩
theorem KC.alloc (W:World)(o:Obj):KC W (W.alloc o):=KC.of_kept ((Kept.refl _ _ _).alloc (Nat.le_refl _) o)
theorem KC.cell {W W':World}(h:KC W W'){a:Addr}{v:Value}(hv:W.cell? a = some v):W'.cell? a = some v:=by
 rw [World.cell?_of_block (a:=a) (w:=W) ?_]
 ·exact hv
 ·cases hb:W.heap[a.block]? with
  | none=>simp [World.cell?,hb] at hv
  | some o=>
   have hc:o.isCells = true:=by
    cases o <;> first | rfl | (simp [World.cell?,hb] at hv)
   exact h.same _ _ hb hc
theorem Vs.kc {W W':World}{v:Value}{R:List Vx}(h:Vs W v R)(k:KC W W'):Vs W' v R:=by
 obtain⟨h0,ad,g,c,rfl,h1⟩:=h;refine⟨h0,ad,g,c,rfl,fun i hi=>?_⟩
 obtain⟨a,b,d⟩:=h1 i hi;exact⟨a,Nat.lt_of_lt_of_le b k.size,fun j u hu=>k.cell (d j u hu)⟩
theorem all15 (sb:Nat)(w:World):Calls Try.prog 10 #[.pointer (some ⟨sb,0,none⟩)] w fun e w'=>e = .returned (.func (.func 18) #[] #[.pointer (some ⟨w.heap.size,0,none⟩)])∧w' = w.alloc (.cells #[.pointer (some ⟨sb,0,none⟩)] 25):=by
 go_enter Try.func10,Try.ntmps10
 go_wp2;go_ret;exact⟨rfl,rfl⟩
def asO (R:List Vx)(h:∀ x∈R,x.Ok):List VxO:=toVL R h
theorem asO_map (R:List Vx)(h:∀ x∈R,x.Ok):(asO R h).map (·.1) = R:=toVL_map R h
theorem asO_len (R:List Vx)(h:∀ x∈R,x.Ok):(asO R h).length = R.length:=by
 have:=congrArg List.length (asO_map R h)
 simpa using this
theorem asO_at (R:List Vx)(h:∀ x∈R,x.Ok)(k:Nat)(hk:k < (asO R h).length)(hk2:k < R.length):((asO R h)[k]'hk).1 = R[k]'hk2:=by
 have:=List.getElem_of_eq (asO_map R h) (i:=k) (by simpa using hk)
 simpa using this
theorem asO_mem {R:List Vx}{h:∀ x∈R,x.Ok}{y:VxO}(hy:y∈asO R h):y.1∈R:=by
 have h2:y.1∈(asO R h).map (·.1):=List.mem_map_of_mem hy
 rw [show(asO R h).map (·.1) = R from asO_map R h] at h2
 exact h2
attribute [local go_sem] Oper.semAt_some
theorem all1_in (m:Nat)(hm:1≤m)(l Bs:Nat){sb n:Nat}{F:Nat→Prop}{keep:Int}{L:List Vx}{h:Option Vx}{P:List (List UInt8)}(J Jx:List VxO→World→Prop)
  (hY:∀ pre x W1,J pre W1→pre.length < L.length→x.1∈L→YieldAt Fence.wide (m - 1) Try.prog l #[x.1.val] W1 fun e W'=>
   (e = .returned (.bool true)∧J (pre ++ [x]) W'∧KC W1 W')∨(e = .returned (.bool false)∧Jx (pre ++ [x]) W'))
  (W:World) (hJ:AbidesFrom W.heap.size J) (hbs:W.cell? ⟨Bs,0,none⟩ = some (.pointer (some ⟨sb,0,none⟩))) (ds:Dst W sb F keep n L h P) (h0:J [] W) :
  CallsIn Fence.wide m Try.prog 18 #[.func (.yield l) #[] #[],.pointer (some ⟨Bs,0,none⟩)] W fun e W'=>(∃ v,e = .returned v) ∧
   ((∃ ys:List VxO,(ys.map (·.1)).Perm L∧J ys W')∨(∃ pre:List VxO,(∀ y∈pre,y.1∈L)∧Jx pre W')):=by
 have HS:=hid ((callsIn_wide (n:=m - 1)).2 (sorted_all15 W ds))
 have hlen:L.length≤100000:=by
  obtain⟨vb,bb,hd,d⟩:=ds;have:=d.nn;obtain⟨D,h1,h2⟩:=d.vp;have:=h1.size_le;rw [h2.size] at this
  omega
 have HLN:=hid hlen;have HY:=hid hY;have HJ:=hid hJ;have H0:=hid h0;clear hY hJ h0 ds hlen;refine callsIn_of_wp Try.func18 rfl trivial ?_ rfl
 simp only [Try.ntmps18,List.size_toArray,List.length_cons,List.length_nil,Nat.reduceAdd,Nat.reduceSub,Array.replicate_succ,Array.replicate_zero,List.push_toArray,List.append_toArray,List.nil_append,List.cons_append]
 gi_wp2_with (refine⟨trivial,?_⟩; gi_at_call 15; refine(HS.out).mono ?_; rintro e w2 ⟨v,R,rfl,⟨hok,ad,g,c,rfl,hat⟩,hperm,hlow,k2⟩; obtain⟨ln,hln⟩:∃ x,x = R.length:=⟨_,rfl⟩; rw [← hln]; have HLR:=hid hln; have HV:=hid (show Vs w2 (.slice ad ln c) R from⟨hok,ad,g,c,by rw [hln],hat⟩); have HPM:=hid hperm; have HOK:=hid hok; have hl9:(ln:Int)≤100000:=(by have h1:=hperm.length_eq; have h2:=List.length_filter_le (fun _=>true) L; have h3:=HLN.out; omega); have K2:=hid k2; clear hln hat hperm hlow k2 hok)
 gi_loopw [8] (fun s8 wr=>∃ (k:Nat) (pre:List VxO),s8 = .int .i64 (k:Int)∧k≤ln∧Hid (pre = (asO R HOK.out).take k)∧Hid (W.heap.size≤wr.heap.size)∧Hid (Vs wr (.slice ad ln c) R)∧Hid (J pre wr))
  (fun s8 _=>ln - (RowKit.intOf s8).toNat)
 case atStart=>exact⟨0,[],rfl,Nat.zero_le _,hid rfl,hid K2.out.size,HV,hid (HJ.out _ _ _ none H0.out (grown15 K2.out) (fun r e=>by cases e))⟩
 case round=>
  obtain⟨k,pre,rfl,hkl,hpre,hsz,hvs,hj⟩:=hrel
  by_cases hk:k < ln
  ·have hki:(k:Int) < (ln:Int):=by omega
   have hkR:k < R.length:=by rw [← HLR.out]; exact hk
   obtain⟨hok,ad',g',c',e,hat⟩:=hvs.out;obtain⟨a1,a2,a3⟩:=hat k hkR;injection e with e1 hle hce
   clear hle hce;rw [a1] at e1;have hxl:k < (asO R HOK.out).length:=by rw [asO_len]; exact hkR
   obtain⟨x,hx⟩:∃ x,x = (asO R HOK.out)[k]'hxl:=⟨_,rfl⟩;have hx1:x.1 = R[k]'hkR:=by rw [hx]; exact asO_at R HOK.out k hxl hkR
   have hxL:x.1∈L:=(List.mem_filter.1 (HPM.out.mem_iff.1 (by rw [hx1]; exact List.getElem_mem hkR))).1
   rw [← hx1] at a3;have hld:=run_loadVar_mid (P:=Try.prog) wr g' (k * 66) 36 x.1.cells _ a3 Try.underlying36 rfl (by rw [vxInfo15,Vx.cells_length x.2])
   have hst:=store_vx15 wr x.1 x.2;have hal:=alloc_vx15 wr;obtain⟨w3,hw3⟩:∃ y,y = wr.alloc (.cells x.1.cells.toArray 36):=⟨_,rfl⟩
   have hga:=World.grownBy_alloc wr (.cells x.1.cells.toArray 36) none
   rw [← hw3] at hst hga;have hJ3:J pre w3:=HJ.out _ _ _ none hj.out hga (fun r e=>by cases e)
   have hld3:(loadVar 36 ⟨wr.heap.size,0,none⟩).run Try.prog w3 = .ok (.agg x.1.cells.toArray) w3:=by rw [hw3]; exact(Vb.new wr x.1).all x.2
   have HKC:=hid (show KC wr w3 by rw [hw3]; exact KC.alloc _ _)
   have hpl:pre.length = k:=by rw [hpre.out,List.length_take]; omega
   obtain⟨fn,tmps,assign,body,hyl,hR⟩:=HY.out pre x w3 hJ3 (by
    have h1:=HPM.out.length_eq;have h2:=List.length_filter_le (fun _=>true) L
    omega) hxL
   have HX2:=hid (show(asO R HOK.out).take (k + 1) = (asO R HOK.out).take k ++ [x] by rw [hx,List.take_succ_eq_append_getElem hxl])
   unfold Vx.val at hyl;generalize x.1.cells.toArray = CC at hyl hst hld hld3;generalize Vx.zero.cells.toArray = ZC at hst hal;have HE1:=hid e1;rw [e1];clear hx hx1 hxL hw3 hga a1 a2 a3 hat e1 hpl hJ3 hok hxl hkR
   gi_wp2_with (first
    | (refine inL_alloc rfl 36 rfl hal ?_)
    | (refine inL_store rfl 36 _ _ rfl rfl wr.heap.size 0 rfl (.agg CC) rfl hst ?_)
    | (refine inL_load rfl 36 _ rfl g' (k * 66) rfl (.agg CC) hld ?_)
    | (refine inL_load rfl 36 _ rfl wr.heap.size 0 rfl (.agg CC) hld3 ?_)
    | gi_in)
   refine hR.mono ?_;rintro e W3 (⟨rfl,hJ3,hk3⟩ | ⟨rfl,hJx3⟩)
   ·have HV3:=hid ((hvs.out.kc HKC.out).kc hk3)
    have HSZ:=hid (Nat.le_trans hsz.out (Nat.le_trans HKC.out.size hk3.size));have HJ3:=hid hJ3;clear hk3 hJ3
    gi_wp2
    rw [← HE1.out]
    go_roundw
    case rel=>exact⟨k + 1,pre ++ [x],rfl,hk,hid (by rw [HX2.out,← hpre.out]),HSZ,HV3,HJ3⟩
    case measure=>simp [RowKit.intOf]; omega
   ·gi_wp2
    refine bodyPost_ret (results_none rfl _ _ _) rfl ?_;refine⟨⟨_,rfl⟩,.inr ⟨_,fun y hy=>?_,hJx3⟩⟩
    rw [hpre.out,← HX2.out] at hy;exact(List.mem_filter.1 (HPM.out.mem_iff.1 (asO_mem (List.mem_of_mem_take hy)))).1
  ·have hki:¬ (k:Int) < (ln:Int):=by omega
   have hkn:k = ln:=by omega
   have HKN:=hid hkn;clear hkn
   gi_wp2
   go_end0
   refine⟨⟨_,rfl⟩,.inl ⟨pre,?_,hj.out⟩⟩;rw [hpre.out,HKN.out,HLR.out,← asO_len R HOK.out,List.take_length];have hun:(asO R HOK.out).unattach = R:=asO_map R HOK.out
   first | rw [asO_map] | rw [hun]
   have:=HPM.out;rw [List.filter_eq_self.2 (fun _ _=>rfl)] at this
   exact this
theorem all_members15 (m:Nat)(hm:1≤m)(Bs:Nat){sb n:Nat}{F:Nat→Prop}{keep:Int}{L:List Vx}{h:Option Vx}{P:List (List UInt8)}(w:World)(hBs:Bs < w.heap.size)(hbs:w.cell? ⟨Bs,0,none⟩ = some (.pointer (some ⟨sb,0,none⟩)))(ds:Dst w sb F keep n L h P):
  SeqStopsK Fence.wide m Try.prog 18 #[.pointer (some ⟨Bs,0,none⟩)] (fun x:{v:Vx // v.Ok∧v∈L}=>#[x.1.val]) KC (fun _=>True) (fun _=>True) L.length w:=fun l J Jx W hW hJ hJx hY h0=>
 (all1_in m hm l Bs (fun pre W=>∃ q:List {v:Vx // v.Ok∧v∈L},pre = q.map (fun z=>⟨z.1,z.2.1⟩)∧J q W) (fun _ W=>∃ q,Jx q W) (fun pre x W1 h1 h2 h3=>by
  obtain⟨q,rfl,hj⟩:=h1;obtain⟨fn,tmps,assign,body,hyl,hR⟩:=hY q ⟨x.1,x.2,h3⟩ W1 hj (by simpa using h2)
  refine⟨fn,tmps,assign,body,hyl,hR.mono fun e W' h=>?_⟩
  rcases h with ⟨a,b,c⟩ | ⟨a,b⟩
  ·exact .inl ⟨a,⟨_,by simp,b⟩,c⟩
  ·exact .inr ⟨a,_,b⟩) W (fun s A B row hs hg hr=>by
  obtain⟨q,e,hq⟩:=hs
  exact⟨q,e,hJ q A B row hq hg hr⟩) ((hW.cell (p:=⟨Bs,0,none⟩) hBs).trans hbs) (ds.kept (Kept.ofBelow hW (Nat.le_refl _))) ⟨[],rfl,h0⟩).mono fun e W' ⟨h1,h2⟩=>by
  refine⟨h1,?_⟩
  rcases h2 with ⟨ys,_,q,_,hq⟩ | ⟨pre,_,q,hq⟩
  ·exact .inl ⟨q,trivial,hq⟩
  ·exact .inr ⟨q,trivial,hq⟩
end Go.Proofs.Ytfbfdaeagpdaiaa
