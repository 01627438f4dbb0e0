/-
 The document's example of dag.
-/
import Derived.Test.YtfbfdaeagpdaiaaDagBuild
set_option maxRecDepth 100000
set_option maxHeartbeats 12800000
namespace Go.Proofs.Ytfbfdaeagpdaiaa
open Go.RowKit Go.Lib
open List renaming setIfInBounds_toArray → sA, set_cons_zero → sB, set_cons_succ → sC
open BigFrame renaming wpList_want → wQ
namespace Dg
def idb (b:UInt8):List UInt8:=b :: List.replicate 31 0
def v0:Vx:=⟨idb 1,idb 0,0,0⟩
def v1:Vx:=⟨idb 2,idb 1,1,0⟩
def v2:Vx:=⟨idb 3,idb 2,2,0⟩
theorem idb_ok (a b:UInt8)(d:Int):(Vx.mk (idb a) (idb b) d 0).Ok:=⟨rfl,rfl⟩
theorem top1:newTop none v0 = v0:=rfl
theorem top2:newTop (some v0) v1 = v1:=by
 simp only [newTop];rw [if_pos (by rw [Vx.lead_iff]; exact .inl (by decide))]
theorem top3:newTop (some v1) v2 = v2:=by
 simp only [newTop];rw [if_pos (by rw [Vx.lead_iff]; exact .inl (by decide))]
theorem aft1:after 1 [] none v0 = [v0]:=by
 unfold after;rw [top1]
 rfl
theorem aft2:after 1 [v0] (some v0) v1 = [v1,v0]:=by
 unfold after;rw [top2]
 rfl
theorem aft3:after 1 [v1,v0] (some v1) v2 = [v2,v1]:=by
 unfold after;rw [top3]
 rfl
theorem gone1:(gone 1 [] none v0).length = 0:=by
 unfold gone;rw [top1]
 rfl
theorem gone2:(gone 1 [v0] (some v0) v1).length = 0:=by
 unfold gone;rw [top2]
 rfl
theorem gone3:(gone 1 [v1,v0] (some v1) v2).length = 1:=by
 unfold gone;rw [top3]
 rfl
theorem en1:Enough 1 [] none [] v0:=⟨⟨by decide,by decide,by simp [ids],by decide⟩,by decide,⟨by simp,by simp⟩⟩
theorem en2:Enough 1 [v0] (some v0) [idb 0] v1:=⟨⟨by decide,by decide,by decide,by decide⟩,by decide,⟨fun u hu he=>by
 rw [List.mem_singleton] at hu;subst hu
 rfl,by decide⟩⟩
theorem en3:Enough 1 [v1,v0] (some v1) [idb 1,idb 0] v2:=⟨⟨by decide,by decide,by decide,by decide⟩,by decide,⟨fun u hu he=>by
 rcases List.mem_cons.1 hu with rfl | hu
 ·rfl
 ·rw [List.mem_singleton] at hu
  subst hu
  exact absurd he (by decide),by decide⟩⟩
theorem st1:St 1 [v0] (some v0):=by
 have h1:=(St.empty 1).insert (v:=v0) (by decide) (idb_ok _ _ _) en1.1.1 en1.1.2.1 en1.1.2.2.1
 rw [aft1,top1] at h1;exact h1
theorem st2:St 1 [v1,v0] (some v1):=by
 have h1:=st1.insert (v:=v1) (by decide) (idb_ok _ _ _) en2.1.1 en2.1.2.1 en2.1.2.2.1
 rw [aft2,top2] at h1;exact h1
end Dg
theorem far15 {F:Nat→Prop}{w x y:World}(k:Kept w.heap.size w.heap.size w x)(d:Dfr F x y)(hF:∀ k,F k→w.heap.size≤k):Kept w.heap.size w.heap.size w y:=
 ⟨d.os.trans k.os,d.tape.trans k.tape,d.output.trans k.output,Nat.le_trans k.size d.size,fun i hi _=>(d.block i (Nat.lt_of_lt_of_le hi k.size) (fun hf=>by have:=hF i hf; omega)).trans (k.block i hi (Nat.ne_of_lt hi))⟩
theorem awake15 (w:World):Calls Try.prog 5 #[] w fun e w'=>e = .returned (.bool true)∧Kept w.heap.size w.heap.size w w':=by
 have HNEW:=hid (new15 1 (by omega) w)
 have HI1:=hid (fun(x:World) (F:Nat→Prop) (sb:Nat) (d:Dst x sb F 1 0 [] none [])=>(insert_ok15 x d (Dg.St.empty 1) Dg.v0 (Dg.idb_ok _ _ _) (by omega) Dg.en1))
 have HI2:=hid (fun(x:World) (F:Nat→Prop) (sb:Nat) (d:Dst x sb F 1 1 [Dg.v0] (some Dg.v0) [Dg.idb 0])=>(insert_ok15 x d Dg.st1 Dg.v1 (Dg.idb_ok _ _ _) (by omega) Dg.en2))
 have HI3:=hid (fun(x:World) (F:Nat→Prop) (sb:Nat) (d:Dst x sb F 1 2 [Dg.v1,Dg.v0] (some Dg.v1) [Dg.idb 1,Dg.idb 0])=>(insert_ok15 x d Dg.st2 Dg.v2 (Dg.idb_ok _ _ _) (by omega) Dg.en3))
 rw [Dg.gone1,Dg.aft1,Dg.top1] at HI1;rw [Dg.gone2,Dg.aft2,Dg.top2] at HI2;rw [Dg.gone3,Dg.aft3,Dg.top3] at HI3;have HB0:=hid (fun x=>build_id15 0 x)
 have HB1:=hid (fun x=>build_id15 1 x)
 have HB2:=hid (fun x=>build_id15 2 x)
 have HB3:=hid (fun x=>build_id15 3 x)
 have HV0:=hid (fun x=>build_vx3 (Dg.idb 1) (Dg.idb 0) rfl rfl 0 x)
 have HV1:=hid (fun x=>build_vx3 (Dg.idb 2) (Dg.idb 1) rfl rfl 1 x)
 have HV2:=hid (fun x=>build_vx3 (Dg.idb 3) (Dg.idb 2) rfl rfl 2 x)
 have e0:(Vx.val ⟨Dg.idb 1,Dg.idb 0,0,0⟩) = Dg.v0.val:=rfl;have e1:(Vx.val ⟨Dg.idb 2,Dg.idb 1,1,0⟩) = Dg.v1.val:=rfl;have e2:(Vx.val ⟨Dg.idb 3,Dg.idb 2,2,0⟩) = Dg.v2.val:=rfl;rw [e0] at HV0;rw [e1] at HV1;rw [e2] at HV2;clear e0 e1 e2;have hi:∀ b,(b :: List.replicate 31 (0:UInt8)) = Dg.idb b:=fun b=>rfl
 rw [hi] at HB0 HB1 HB2 HB3;clear hi;unfold Vx.val at HV0 HV1 HV2 HI1 HI2 HI3;generalize hc0:Dg.v0.cells.toArray = C0 at HV0 HI1;generalize hc1:Dg.v1.cells.toArray = C1 at HV1 HI2;generalize hc2:Dg.v2.cells.toArray = C2 at HV2 HI3;generalize ha0:(bcells (Dg.idb 0)).toArray = A0 at HB0 HV0;generalize ha1:(bcells (Dg.idb 1)).toArray = A1 at HB1 HV0 HV1;generalize ha2:(bcells (Dg.idb 2)).toArray = A2 at HB2 HV1 HV2;generalize ha3:(bcells (Dg.idb 3)).toArray = A3 at HB3 HV2;clear hc0 hc1 hc2 ha0 ha1 ha2 ha3
 go_enter Try.func5,Try.ntmps5
 go_upto_region 1 with fail
 refine wp_region_lit ?_;refine @wQ _ _ _ _ _ _ _ ?_ ?_;kernel_rfl;intro K hK;go_simp;go_at_call 6
 refine(HNEW.out).mono ?_;rintro e w1 ⟨rfl,k1,hsz1,hd1⟩;refine hK _ _ ?_;clear hK K;iterate 5 (refine @wQ _ _ _ _ _ _ _ ?_ ?_;kernel_rfl;intro K hK;go_simp;refine hK _ _ ?_;clear hK K)
 have X0:=hid k1;have D0:=hid hd1;have F0s:=hid (show ∀ k,(w.heap.size≤k∧k < w.heap.size + 3)→w.heap.size≤k from fun k h=>h.1)
 obtain⟨s,hs⟩:∃ x,x = w.heap.size + 2:=⟨_,rfl⟩;rw [← hs] at D0 ⊢;clear k1 hsz1 hd1 hs
 go_wp2_with fail
 refine wp_loop_rounds 5 ?_;rw [rounds_succ]
 go_upto_region 5 with fail
 refine wp_region_lit ?_;iterate 4 (refine @wQ _ _ _ _ _ _ _ ?_ ?_;kernel_rfl;intro K hK;go_simp;refine hK _ _ ?_;clear hK K)
 refine @wpL_buildN _ _ _ _ _ _ _ ?_ 30 _ rfl #[(0,.int .u8 1)] (by kernel_rfl) _ (HB1.out _) ?_;kernel_rfl
 simp only [Act.put,sA,sB,sC];iterate 2 (refine @wQ _ _ _ _ _ _ _ ?_ ?_;kernel_rfl;intro K hK;go_simp;refine hK _ _ ?_;clear hK K)
 refine @wpL_buildN _ _ _ _ _ _ _ ?_ 30 _ rfl #[(0,.int .u8 0)] (by kernel_rfl) _ (HB0.out _) ?_;kernel_rfl
 simp only [Act.put,sA,sB,sC];refine @wQ _ _ _ _ _ _ _ ?_ ?_;kernel_rfl;intro K hK;go_simp;refine hK _ _ ?_;clear hK K;refine @wpL_buildN _ _ _ _ _ _ _ ?_ 36 _ rfl #[(0,.agg A1),(1,.agg A0),(2,.int .i64 0)] (by kernel_rfl) _ (HV0.out _) ?_;kernel_rfl
 simp only [Act.put,sA,sB,sC];refine @wQ _ _ _ _ _ _ _ ?_ ?_;kernel_rfl;intro K hK;go_simp;go_at_call 7
 refine(HI1.out _ _ _ D0.out).mono ?_;rintro e w2 ⟨F1,ad0,c0,rfl,hsub,hdf,hds⟩;have F1s:=hid (fun k hk=>(hsub k hk).elim (fun h=>F0s.out k h) (fun h=>Nat.le_trans X0.out.size h))
 have X1:=hid (far15 X0.out hdf F0s.out);have D1:=hid hds;clear hsub hdf hds;refine hK _ _ ?_;clear hK K;iterate 5 (refine @wQ _ _ _ _ _ _ _ ?_ ?_;kernel_rfl;intro K hK;go_simp;refine hK _ _ ?_;clear hK K)
 go_wp2_with fail
 rw [rounds_succ]
 go_upto_region 5 with fail
 refine wp_region_lit ?_;iterate 4 (refine @wQ _ _ _ _ _ _ _ ?_ ?_;kernel_rfl;intro K hK;go_simp;refine hK _ _ ?_;clear hK K)
 refine @wpL_buildN _ _ _ _ _ _ _ ?_ 30 _ rfl #[(0,.int .u8 2)] (by kernel_rfl) _ (HB2.out _) ?_;kernel_rfl
 simp only [Act.put,sA,sB,sC];iterate 2 (refine @wQ _ _ _ _ _ _ _ ?_ ?_;kernel_rfl;intro K hK;go_simp;refine hK _ _ ?_;clear hK K)
 refine @wpL_buildN _ _ _ _ _ _ _ ?_ 30 _ rfl #[(0,.int .u8 1)] (by kernel_rfl) _ (HB1.out _) ?_;kernel_rfl
 simp only [Act.put,sA,sB,sC];refine @wQ _ _ _ _ _ _ _ ?_ ?_;kernel_rfl;intro K hK;go_simp;refine hK _ _ ?_;clear hK K;refine @wpL_buildN _ _ _ _ _ _ _ ?_ 36 _ rfl #[(0,.agg A2),(1,.agg A1),(2,.int .i64 1)] (by kernel_rfl) _ (HV1.out _) ?_;kernel_rfl
 simp only [Act.put,sA,sB,sC];refine @wQ _ _ _ _ _ _ _ ?_ ?_;kernel_rfl;intro K hK;go_simp;go_at_call 7
 refine(HI2.out _ _ _ D1.out).mono ?_;rintro e w3 ⟨F2,ad1,c1,rfl,hsub,hdf,hds⟩;have F2s:=hid (fun k hk=>(hsub k hk).elim (fun h=>F1s.out k h) (fun h=>Nat.le_trans X1.out.size h))
 have X2:=hid (far15 X1.out hdf F1s.out);have D2:=hid hds;clear hsub hdf hds;refine hK _ _ ?_;clear hK K;iterate 5 (refine @wQ _ _ _ _ _ _ _ ?_ ?_;kernel_rfl;intro K hK;go_simp;refine hK _ _ ?_;clear hK K)
 go_wp2_with fail
 rw [rounds_succ]
 go_upto_region 5 with fail
 refine wp_region_lit ?_;iterate 4 (refine @wQ _ _ _ _ _ _ _ ?_ ?_;kernel_rfl;intro K hK;go_simp;refine hK _ _ ?_;clear hK K)
 refine @wpL_buildN _ _ _ _ _ _ _ ?_ 30 _ rfl #[(0,.int .u8 3)] (by kernel_rfl) _ (HB3.out _) ?_;kernel_rfl
 simp only [Act.put,sA,sB,sC];iterate 2 (refine @wQ _ _ _ _ _ _ _ ?_ ?_;kernel_rfl;intro K hK;go_simp;refine hK _ _ ?_;clear hK K)
 refine @wpL_buildN _ _ _ _ _ _ _ ?_ 30 _ rfl #[(0,.int .u8 2)] (by kernel_rfl) _ (HB2.out _) ?_;kernel_rfl
 simp only [Act.put,sA,sB,sC];refine @wQ _ _ _ _ _ _ _ ?_ ?_;kernel_rfl;intro K hK;go_simp;refine hK _ _ ?_;clear hK K;refine @wpL_buildN _ _ _ _ _ _ _ ?_ 36 _ rfl #[(0,.agg A3),(1,.agg A2),(2,.int .i64 2)] (by kernel_rfl) _ (HV2.out _) ?_;kernel_rfl
 simp only [Act.put,sA,sB,sC];refine @wQ _ _ _ _ _ _ _ ?_ ?_;kernel_rfl;intro K hK;go_simp;go_at_call 7
 refine(HI3.out _ _ _ D2.out).mono ?_;rintro e w4 ⟨F3,ad2,c2,rfl,hsub,hdf,hds⟩;have F3s:=hid (fun k hk=>(hsub k hk).elim (fun h=>F2s.out k h) (fun h=>Nat.le_trans X2.out.size h))
 have X3:=hid (far15 X2.out hdf F2s.out);have D3:=hid hds;clear hsub hdf hds;refine hK _ _ ?_;clear hK K;iterate 5 (refine @wQ _ _ _ _ _ _ _ ?_ ?_;kernel_rfl;intro K hK;go_simp;refine hK _ _ ?_;clear hK K)
 go_wp2_with fail
 have HFLO:=hid (floor15 w4 D3.out);have HLEN:=hid (fun(x:World) (k:Kept w4.heap.size w4.heap.size w4 x)=>len15 x (D3.out.kept k))
 have hfl:Dg.floor 1 (some Dg.v2) = 1:=rfl;rw [hfl] at HFLO;clear hfl;rw [rounds_succ]
 go_wp2_with (first
  | (go_at_call 12; refine(HFLO.out).mono ?_; rintro e w5 ⟨rfl,kx5⟩; have K5:=hid kx5; clear kx5)
  | (go_at_call 9; refine(HLEN.out _ K5.out).mono ?_; rintro e w6 ⟨rfl,h6⟩; subst h6))
 go_ret;exact⟨rfl,X3.out.onto K5.out⟩
end Go.Proofs.Ytfbfdaeagpdaiaa
