/-
 TreeNode; TreeResMath; TreeNot: several texts in one.
-/
import Derived.Test.YtilpehpiikdkbaaGreatDoorHI
import Derived.Test.YtilpehpiikdkbaaGreatDoorHA

namespace Go.Proofs.YtilpehpiikdkbaaGreatDoor
open Go.RowKit Go.Lib

namespace Tt
/-- The hash of a node. -/
def hashNode (L : List Lf) (P : List Pr) (x : Nat) : List UInt8 := hashSeg L P L.length (Bo.part L.length x).1 (Bo.part L.length x).2.1
theorem hashNode_len (L : List Lf) (P : List Pr) (x : Nat) (h : 1 ≤ L.length) : (hashNode L P x).length = 32 := by
 obtain ⟨k, hk⟩ : ∃ k, L.length = k + 1 := ⟨L.length - 1, by omega⟩
 unfold hashNode
 rw [hk]
 exact hashSeg_len L P k _ _
/-- What HashAt answers of a right tree. -/
def nodeHash (L : List Lf) (P : List Pr) (x : Int) : List UInt8 := if 0 ≤ x ∧ x ≤ 2 * (L.length : Int) - 2 then hashNode L P x.toNat else List.replicate 32 0
theorem nodeHash_len (L : List Lf) (P : List Pr) (x : Int) : (nodeHash L P x).length = 32 := by
 unfold nodeHash
 split
 ·exact hashNode_len L P _ (by omega)
 ·rfl
end Tt
section
variable (lv pv : Value) (L : List Lf) (P : List Pr) (hF : Tt.Fine L P) (x : Nat) (hx : Bo.In 0 L.length x) (w : World) (hL : Lvs w lv L) (hP : Pts w pv P)
include hF hx hL hP
theorem hashof_node (htab : Tab w) : Calls Tryz.prog 55 #[.agg #[lv, pv], .int .i64 (x : Int)] w fun e w' => e = .returned (.agg (bcells (Tt.hashNode L P x)).toArray) ∧ Kept w.heap.size w.heap.size w w' := by
 obtain ⟨a, m, p, b, h1, h2, h3, h4, h5⟩ := Bo.seg_of hx hF.n64
 have := hashof_calls L P hF L.length rfl hx.1 L.length a m p b (by omega) h1 lv pv w htab hL hP
 rw [h2] at this
 unfold Tt.hashNode
 rw [h3]
 exact this
theorem refhashat_node : Calls Tryz.prog 26 #[.agg #[lv, pv], .int .i64 (x : Int)] w fun e w' => e = .returned (.agg (bcells (Tt.hashNode L P x)).toArray) ∧ Kept w.heap.size w.heap.size w w' := by
 obtain ⟨a, m, p, b, h1, h2, h3, h4, h5⟩ := Bo.seg_of hx hF.n64
 have := refhashat_calls L P hF L.length rfl hx.1 L.length a m p b (by omega) h1 lv pv w hL hP
 rw [h2] at this
 unfold Tt.hashNode
 rw [h3]
 exact this
end
theorem build0_hash8 (w : World) : (Instr.build 39 #[]).run Tryz.prog w = .ok (.agg zeros32) w := by kernel_rfl
theorem isnode8_yes (n : Nat) (x : Int) (h64 : n ≤ 64) (h : 0 ≤ x ∧ x ≤ 2 * (n : Int) - 2) (w : World) : Calls Tryz.prog 49 #[.int .i64 (n : Int), .int .i64 x] w fun e w' => e = .returned (.bool true) ∧ w' = w := by
 obtain ⟨h1, h2⟩ := h
 have hw1 : IntKind.i64.wrap (2 * (n : Int)) = 2 * (n : Int) := wrap_small _ (by omega) (by omega)
 have hw2 : IntKind.i64.wrap (2 * (n : Int) - 2) = 2 * (n : Int) - 2 := wrap_small _ (by omega) (by omega)
 have h3 : x ≥ 0 := h1
 go_enter Tryz.func49, Tryz.ntmps49
 go_wp2
 go_ret
 exact ⟨by simp, rfl⟩
theorem isnode8_no (n : Nat) (x : Int) (h64 : n ≤ 64) (h : ¬ (0 ≤ x ∧ x ≤ 2 * (n : Int) - 2)) (w : World) : Calls Tryz.prog 49 #[.int .i64 (n : Int), .int .i64 x] w fun e w' => e = .returned (.bool false) ∧ w' = w := by
 have hw1 : IntKind.i64.wrap (2 * (n : Int)) = 2 * (n : Int) := wrap_small _ (by omega) (by omega)
 have hw2 : IntKind.i64.wrap (2 * (n : Int) - 2) = 2 * (n : Int) - 2 := by
  rcases Nat.eq_zero_or_pos n with h0 | h0
  ·rw [h0]; rfl
  ·exact wrap_small _ (by omega) (by omega)
 by_cases h1 : 0 ≤ x
 ·have h2 : ¬ x ≤ 2 * (n : Int) - 2 := fun h3 => h ⟨h1, h3⟩
  have h3 : x ≥ 0 := h1
  go_enter Tryz.func49, Tryz.ntmps49
  go_wp2
  go_ret
  exact ⟨by simp, rfl⟩
 ·have h3 : ¬ x ≥ 0 := h1
  go_enter Tryz.func49, Tryz.ntmps49
  go_wp2
  go_ret
  exact ⟨by simp, rfl⟩
set_option maxRecDepth 100000 in
set_option maxHeartbeats 6400000 in
theorem hashat_calls8 (lv pv : Value) (L : List Lf) (P : List Pr) (x : Int) (w : World) (htab : Tab w) (hL : Lvs w lv L) (hP : Pts w pv P) (hr : Tt.right L P = true) :
  Calls Tryz.prog 19 #[.agg #[lv, pv], .int .i64 x] w fun e w' => e = .returned (.agg (bcells (Tt.nodeHash L P x)).toArray) ∧ Kept w.heap.size w.heap.size w w' := by
 have hF := Tt.fine_of hr
 have HRN := Lib.hid (fun (x : World) (k : Kept w.heap.size w.heap.size w x) => rightornone8 lv pv L P x (hL.kept k) (hP.kept k) (Nat.le_trans hF.n64 (by decide)) (by have := hF.n64; have := hF.par; omega) hF.len hr)
 have HH := Lib.hid (fun (y : Nat) (hy : Bo.In 0 L.length y) (x : World) (ht : Tab x) (k : Kept w.heap.size w.heap.size w x) => hashof_node lv pv L P hF y hy x (hL.kept k) (hP.kept k) ht)
 obtain ⟨lad, lc, rfl⟩ := hL.shape
 obtain ⟨pad, pc, rfl⟩ := hP.shape
 obtain ⟨ln, hln⟩ : ∃ ln, ln = L.length := ⟨_, rfl⟩
 obtain ⟨pn, hpn⟩ : ∃ pn, pn = P.length := ⟨_, rfl⟩
 have hln9 : ln ≤ 64 := by rw [hln]; exact hF.n64
 have hw0 := htab.lt
 obtain ⟨cu, hcu⟩ : ∃ cu, cu = (bcells (Tt.nodeHash L P x)).toArray := ⟨_, rfl⟩
 have HCS := Lib.hid (show cu.size = 32 by rw [hcu, List.size_toArray, bcells_length, Tt.nodeHash_len])
 have HALL := Lib.hid (show cu.all (·.oneCell') = true by rw [hcu]; exact bcells_all _)
 have HCE := Lib.hid hcu
 rw [← hcu]
 clear hcu
 have HDF := Lib.hid (show Tt.nodeHash L P x = if 0 ≤ x ∧ x ≤ 2 * (L.length : Int) - 2 then Tt.hashNode L P x.toNat else List.replicate 32 0 from rfl)
 rw [← hln, ← hpn] at HRN ⊢
 rw [← hln] at HH HDF
 rw [← hpn] at HH
 clear hL hP hr hF hln hpn
 have k1 := (Kept.refl w.heap.size w.heap.size w).alloc (Nat.le_refl _) (.cells #[.slice lad ln lc, .slice pad pn pc] 27)
 have t1 := heap_new w (.cells #[.slice lad ln lc, .slice pad pn pc] 27)
 have s1 : (w.alloc (.cells #[.slice lad ln lc, .slice pad pn pc] 27)).heap.size = w.heap.size + 1 := by simp
 go_enter Tryz.func19, Tryz.ntmps19
 go_upto_region 1 with fail
 rw [zeros32_eq]
 generalize w.alloc (.cells #[.slice lad ln lc, .slice pad pn pc] 27) = wa at k1 t1 s1 ⊢
 have k2 := (Kept.refl wa.heap.size wa.heap.size wa).alloc (Nat.le_refl _) (.cells zeros32 39)
 have r2 := heap_new wa (.cells zeros32 39)
 have t2 := (k2.block _ (lt_of_block t1) (Nat.ne_of_lt (lt_of_block t1))).trans t1
 generalize wa.alloc (.cells zeros32 39) = w1 at k2 r2 t2 ⊢
 have K1 := Lib.hid (k1.next1 k2)
 rw [s1] at r2
 (try rw [s1])
 obtain ⟨tb, htb⟩ : ∃ tb, tb = w.heap.size := ⟨_, rfl⟩
 obtain ⟨rb, hrb⟩ : ∃ rb, rb = w.heap.size + 1 := ⟨_, rfl⟩
 rw [← hrb] at r2
 (try rw [← hrb])
 rw [← htb] at t2
 (try rw [← htb])
 have HTR := Lib.hid (show tb ≠ rb by omega)
 have HTB := Lib.hid (show ¬ tb < w.heap.size by omega)
 have HRB := Lib.hid (show ¬ rb < w.heap.size by omega)
 have T1 := Lib.hid t2
 have R1 := Lib.hid r2
 clear k1 t1 s1 k2 r2 t2 htb hrb
 refine wp_region_lit ?_
 refine @wpList_load_known _ _ _ _ _ _ _ ?hw58002 27 (.tmp 2) rfl (tb) (0) rfl (.agg #[.slice lad ln lc, .slice pad pn pc]) (run_loadVar_row w1 tb 27 27 _ (0, 0) _ T1.out Tryz.underlying27 rfl treeInfo) ?_
 case hw58002 => kernel_rfl
 simp only [Act.put, List.setIfInBounds_toArray, List.set_cons_zero, List.set_cons_succ]
 refine @BigFrame.wpList_want _ _ _ _ _ _ _ ?hw58001 ?_
 case hw58001 => kernel_rfl
 intro K hK
 go_simp
 go_at_call 47
 refine (HRN.out _ K1.out).mono ?_
 rintro e w2 ⟨rfl, k2⟩
 have K2 := Lib.hid (K1.out.next1 k2)
 have T2 := Lib.hid ((k2.block tb (lt_of_block T1.out) (Nat.ne_of_lt (lt_of_block T1.out))).trans T1.out)
 have R2 := Lib.hid ((k2.block rb (lt_of_block R1.out) (Nat.ne_of_lt (lt_of_block R1.out))).trans R1.out)
 clear k2
 refine hK _ _ ?_
 clear hK K
 refine wpList_store_row rfl 27 _ _ rfl (tb) #[.slice lad ln lc, .slice pad pn pc] rfl rfl 27 #[.slice lad ln lc, .slice pad pn pc] T2.out treeInfo rfl (tree_all _ _ _ _ _ _) ?_
 simp only [Act.put]
 have T3 : Hid ((w2.setRow tb #[.slice lad ln lc, .slice pad pn pc]).heap[tb]? = some (.cells #[.slice lad ln lc, .slice pad pn pc] 27 (0, 0))) := Lib.hid (setRow_heap w2 tb _ #[.slice lad ln lc, .slice pad pn pc] _ _ T2.out)
 have g3 := grown_setRow w2 tb #[.slice lad ln lc, .slice pad pn pc]
 have K3 := Lib.hid (K2.out.grown g3 K2.out.size (fun k e => by cases e; exact Nat.le_of_not_lt HTB.out))
 have R3 := Lib.hid ((g3.block rb (lt_of_block R2.out) (fun e => HTR.out (Option.some.inj e).symm)).trans R2.out)
 have HTAB := Lib.hid (htab.kept K3.out hw0 hw0)
 generalize w2.setRow tb #[.slice lad ln lc, .slice pad pn pc] = w3 at T3 K3 R3 HTAB ⊢
 clear g3 htab
 have t0 := two_cell0 T3.out
 by_cases hz : 0 ≤ x ∧ x ≤ 2 * (ln : Int) - 2
 ·have HN := Lib.hid (fun u => isnode8_yes ln x hln9 hz u)
  obtain ⟨y, hy⟩ : ∃ y : Nat, x = (y : Int) := ⟨x.toNat, by omega⟩
  have hyi : Bo.In 0 ln y := ⟨by omega, by omega, by omega⟩
  have HHN := Lib.hid (HH.out y hyi)
  rw [← hy] at HHN
  have HCN := Lib.hid (show cu = (bcells (Tt.hashNode L P y)).toArray by rw [HCE.out, HDF.out, if_pos hz, show x.toNat = y by omega])
  rw [← HCN.out] at HHN
  clear hz hy hyi HH HDF hln9
  go_upto_region 2 with fail
  refine wp_region_lit ?_
  refine @BigFrame.wpList_want _ _ _ _ _ _ _ ?hw58004 ?_
  case hw58004 => kernel_rfl
  intro K hK
  go_simp
  refine hK _ _ ?_
  clear hK K
  refine @BigFrame.wpList_want _ _ _ _ _ _ _ ?hw58005 ?_
  case hw58005 => kernel_rfl
  intro K hK
  go_simp
  refine hK _ _ ?_
  clear hK K
  refine @BigFrame.wpList_want _ _ _ _ _ _ _ ?hw58006 ?_
  case hw58006 => kernel_rfl
  intro K hK
  go_simp
  refine hK _ _ ?_
  clear hK K
  refine @BigFrame.wpList_want _ _ _ _ _ _ _ ?hw58007 ?_
  case hw58007 => kernel_rfl
  intro K hK
  go_simp
  refine hK _ _ ?_
  clear hK K
  refine @BigFrame.wpList_want _ _ _ _ _ _ _ ?hw58003 ?_
  case hw58003 => kernel_rfl
  intro K hK
  go_simp
  go_at_call 49
  refine (HN.out _).mono ?_
  rintro e wx ⟨rfl, hwx⟩
  subst wx
  refine hK _ _ ?_
  clear hK K
  refine @BigFrame.wpList_want _ _ _ _ _ _ _ ?hw58008 ?_
  case hw58008 => kernel_rfl
  intro K hK
  go_simp
  refine hK _ _ ?_
  clear hK K
  clear t0
  go_upto_region 4 with fail
  refine wp_region_lit ?_
  refine @wpList_load_known _ _ _ _ _ _ _ ?hw58009 27 (.tmp 2) rfl (tb) (0) rfl (.agg #[.slice lad ln lc, .slice pad pn pc]) (run_loadVar_row w3 tb 27 27 _ (0, 0) _ T3.out Tryz.underlying27 rfl treeInfo) ?_
  case hw58009 => kernel_rfl
  simp only [Act.put, List.setIfInBounds_toArray, List.set_cons_zero, List.set_cons_succ]
  refine @BigFrame.wpList_want _ _ _ _ _ _ _ ?hw58010 ?_
  case hw58010 => kernel_rfl
  intro K hK
  go_simp
  refine hK _ _ ?_
  clear hK K
  refine @BigFrame.wpList_want _ _ _ _ _ _ _ ?hw58011 ?_
  case hw58011 => kernel_rfl
  intro K hK
  go_simp
  go_at_call 55
  refine (HHN.out _ HTAB.out K3.out).mono ?_
  rintro e w6 ⟨rfl, k6⟩
  refine hK _ _ ?_
  clear hK K
  have R6 := Lib.hid ((k6.block rb (lt_of_block R3.out) (Nat.ne_of_lt (lt_of_block R3.out))).trans R3.out)
  have K6 := Lib.hid (K3.out.next1 k6)
  clear k6
  refine wpList_store_row rfl 39 _ _ rfl (rb) cu rfl rfl 39 zeros32 R6.out (info30 HCS.out) (by rw [HCS.out]; rfl) HALL.out ?_
  simp only [Act.put]
  have RZ := setRow_heap w6 rb _ cu _ _ R6.out
  have KZ := Lib.hid (K6.out.grown (grown_setRow w6 rb cu) K6.out.size (fun k e => by cases e; exact Nat.le_of_not_lt HRB.out))
  generalize w6.setRow rb cu = wz at RZ KZ ⊢
  go_wp2
  refine bodyPost_ret (results_cell_row rfl _ _ rb 39 _ (0, 0) _ rfl RZ Tryz.underlying39 rfl (info30 HCS.out)) rfl ?_
  exact ⟨rfl, KZ.out⟩
 ·have HN := Lib.hid (fun u => isnode8_no ln x hln9 hz u)
  have HCZ := Lib.hid (show cu = zeros32 by rw [HCE.out, HDF.out, if_neg hz]; rfl)
  clear hz HH HDF hln9
  go_upto_region 2 with fail
  refine wp_region_lit ?_
  refine @BigFrame.wpList_want _ _ _ _ _ _ _ ?hw58004 ?_
  case hw58004 => kernel_rfl
  intro K hK
  go_simp
  refine hK _ _ ?_
  clear hK K
  refine @BigFrame.wpList_want _ _ _ _ _ _ _ ?hw58005 ?_
  case hw58005 => kernel_rfl
  intro K hK
  go_simp
  refine hK _ _ ?_
  clear hK K
  refine @BigFrame.wpList_want _ _ _ _ _ _ _ ?hw58006 ?_
  case hw58006 => kernel_rfl
  intro K hK
  go_simp
  refine hK _ _ ?_
  clear hK K
  refine @BigFrame.wpList_want _ _ _ _ _ _ _ ?hw58007 ?_
  case hw58007 => kernel_rfl
  intro K hK
  go_simp
  refine hK _ _ ?_
  clear hK K
  refine @BigFrame.wpList_want _ _ _ _ _ _ _ ?hw58003 ?_
  case hw58003 => kernel_rfl
  intro K hK
  go_simp
  go_at_call 49
  refine (HN.out _).mono ?_
  rintro e wx ⟨rfl, hwx⟩
  subst wx
  refine hK _ _ ?_
  clear hK K
  refine @BigFrame.wpList_want _ _ _ _ _ _ _ ?hw58008 ?_
  case hw58008 => kernel_rfl
  intro K hK
  go_simp
  refine hK _ _ ?_
  clear hK K
  clear t0
  go_upto_region 3 with fail
  refine wp_region_lit ?_
  refine @wpL_build0 _ _ _ _ _ _ _ ?hw58012 39 rfl _ (build0_hash8 _) ?_
  case hw58012 => kernel_rfl
  simp only [Act.put, List.setIfInBounds_toArray, List.set_cons_zero, List.set_cons_succ]
  refine wpList_store_row rfl 39 _ _ rfl (rb) zeros32 rfl rfl 39 zeros32 R3.out (info30 rfl) rfl zeros32_all ?_
  simp only [Act.put]
  have RZ := setRow_heap w3 rb _ zeros32 _ _ R3.out
  have KZ := Lib.hid (K3.out.grown (grown_setRow w3 rb zeros32) K3.out.size (fun k e => by cases e; exact Nat.le_of_not_lt HRB.out))
  generalize w3.setRow rb zeros32 = wz at RZ KZ ⊢
  go_wp2
  refine bodyPost_ret (results_cell_row rfl _ _ rb 39 _ (0, 0) _ rfl RZ Tryz.underlying39 rfl (info30 rfl)) rfl ?_
  exact ⟨by rw [HCZ.out], KZ.out⟩

end Go.Proofs.YtilpehpiikdkbaaGreatDoor

namespace Go.Proofs.YtilpehpiikdkbaaGreatDoor
open Go.RowKit Go.Lib

namespace Tt
/-- What the root of a part resolves to. -/
def resSeg (L : List Lf) (P : List Pr) : Nat → Nat → Nat → List Int
 | 0, _, _ => []
 | k + 1, a, m => if m = 1 then (if (L.getD a Lf.zero).name = 0 then [] else [((Bo.root a m : Nat) : Int)])
  else if (P.getD (Bo.root a m / 2) Pr.zero).set then ((Bo.root a m : Nat) : Int) :: (P.getD (Bo.root a m / 2) Pr.zero).loose.map (fun y => 2 * y)
  else resSeg L P k a (Bo.half m) ++ resSeg L P k (a + Bo.half m) (m - Bo.half m)
theorem resSeg_length (L : List Lf) (P : List Pr) (h : ∀ p ∈ P, p.loose.length ≤ 1000) : ∀ k a m, 1 ≤ m → (resSeg L P k a m).length ≤ 1001 * m
 | 0, _, _, _ => Nat.zero_le _
 | k + 1, a, m, hm => by
  rw [resSeg]
  split
  ·split
   ·exact Nat.zero_le _
   ·rw [List.length_singleton]; omega
  ·split
   ·rw [List.length_cons, List.length_map]
    have : (P.getD (Bo.root a m / 2) Pr.zero).loose.length ≤ 1000 := by
     rw [List.getD_eq_getElem?_getD]
     cases hg : P[Bo.root a m / 2]? with
     | none => exact Nat.zero_le _
     | some p => exact h p (List.mem_of_getElem? hg)
    have : 1001 ≤ 1001 * m := Nat.le_mul_of_pos_right _ hm
    omega
   ·rename_i h1 _
    have h2 := Bo.half_pos m
    have h3 := Bo.half_lt (m := m) (by omega)
    have h4 := resSeg_length L P h k a (Bo.half m) h2
    have h5 := resSeg_length L P h k (a + Bo.half m) (m - Bo.half m) (by omega)
    rw [List.length_append]
    have : 1001 * Bo.half m + 1001 * (m - Bo.half m) = 1001 * m := by rw [← Nat.mul_add]; congr 1; omega
    omega
end Tt
theorem iapp_none (w : World) (ad : Option Addr) (n m : Nat) (hnm : n ≤ m) (q : Addr) (c : Nat) : (Builtin.append_ #[35, 35] 35 #[.slice ad n m, .slice (some q) 0 c]).run Tryz.prog w = .ok (.slice ad n m) w := by
 obtain ⟨i, hi, hz, hzs, hs1⟩ := info_parts intInfo
 have ht := Tryz.underlying35
 have hf := run_firstCells_some (P := Tryz.prog) w i.size 0 q 0 c [] (by simp) (by simp)
 cases ad <;> simp [Builtin.append_, run_underlying ht, sizeOf, typeInfo, hi, Builtin.lenOf, hnm, hf, storeCells]
theorem iapp_nil (w : World) (ad : Option Addr) (n m : Nat) (hnm : n ≤ m) (c : Nat) : (Builtin.append_ #[35, 35] 35 #[.slice ad n m, .slice none 0 c]).run Tryz.prog w = .ok (.slice ad n m) w := by
 obtain ⟨i, hi, hz, hzs, hs1⟩ := info_parts intInfo
 have ht := Tryz.underlying35
 have hf := run_firstCells_none (P := Tryz.prog) w i.size 0 0 c
 cases ad <;> simp [Builtin.append_, run_underlying ht, sizeOf, typeInfo, hi, Builtin.lenOf, hnm, hf, storeCells]
/-- Numbers put behind a row of one's own, from wherever they lie. -/
theorem append_nums8 (w : World) (base : Nat) (v : Value) (L M : List Int) (h : Ints w base v L) (b o c : Nat) (hb : ∀ i (hi : i < M.length), w.cell? ⟨b, o + i, none⟩ = some (.int .i64 M[i])) (hn : L.length + M.length < 1000000) (hbase : base ≤ w.heap.size) :
  ∃ v' w', (Builtin.append_ #[35, 35] 35 #[v, .slice (some ⟨b, o, none⟩) M.length c]).run Tryz.prog w = .ok v' w' ∧ Ints w' base v' (L ++ M) ∧ w.grownBy w' v.ownBlock := by
 obtain ⟨i0, hi, hz0, hz1, hz2⟩ := info_parts intInfo
 obtain ⟨v', w', e1, e2, e3, _⟩ := run_append_own (P := Tryz.prog) w base 35 35 3 i0 (.int .i64 0) 1 8 Tryz.underlying35 hi hz0 hz1 hz2 rfl (by decide) v L.length (L.map (Value.int .i64)) h ⟨b, o, none⟩ M.length c (M.map (Value.int .i64))
  (by rw [List.length_map, Nat.mul_one]) (fun j u hu => by
   rw [Addr.add_lit]
   obtain ⟨y, hy, rfl⟩ := List.getElem?_map .. ▸ hu |> Option.map_eq_some_iff.1
   obtain ⟨hj, rfl⟩ := List.getElem?_eq_some_iff.1 hy
   exact hb j hj) (fun u hu => by obtain ⟨y, _, rfl⟩ := List.mem_map.1 hu; rfl) (by unfold maxLen; omega) (by omega) hbase
 refine ⟨v', w', e1, ?_, e3⟩
 unfold Ints
 rw [List.length_append, List.map_append]
 exact e2
/-- One row of numbers behind another one. -/
theorem append_row8 (w : World) (base base' : Nat) (v u : Value) (L M : List Int) (hv : Ints w base v L) (hu : Ints w base' u M) (hn : L.length + M.length < 1000000) (hbase : base ≤ w.heap.size) :
  ∃ v' w', (Builtin.append_ #[35, 35] 35 #[v, u]).run Tryz.prog w = .ok v' w' ∧ Ints w' base v' (L ++ M) ∧ w.grownBy w' v.ownBlock := by
 have hnu := ints_nums hu
 have hshape : ∃ ad n m, v = .slice ad n m ∧ n ≤ m := by
  rcases hv.2 with ⟨rfl, _⟩ | ⟨g, cap, cur, rfl, _, _, h, _⟩
  ·exact ⟨none, 0, 0, rfl, Nat.le_refl _⟩
  ·exact ⟨_, _, _, rfl, h⟩
 rcases hu.2 with ⟨rfl, hn0⟩ | ⟨g, cap, cur, rfl, _⟩
 ·obtain rfl := List.length_eq_zero_iff.1 hn0
  obtain ⟨ad, n, m, rfl, hnm⟩ := hshape
  exact ⟨_, w, iapp_nil w ad n m hnm 0, by simpa using hv, ⟨rfl, rfl, rfl, Nat.le_refl _, fun _ _ _ => rfl⟩⟩
 ·rcases Nat.eq_zero_or_pos M.length with h0 | h0
  ·rw [h0]
   obtain rfl := List.length_eq_zero_iff.1 h0
   obtain ⟨ad, n, m, rfl, hnm⟩ := hshape
   exact ⟨_, w, iapp_none w ad n m hnm _ _, by simpa using hv, ⟨rfl, rfl, rfl, Nat.le_refl _, fun _ _ _ => rfl⟩⟩
  ·obtain ⟨ad, c, g', o, e, h1⟩ := hnu
   obtain ⟨e1, _, _⟩ := h1 0 h0
   rw [e1] at e
   injection e with e2 _ e3
   injection e2 with e2
   injection e2 with e4 e5 _
   subst e4 e3
   exact append_nums8 w base v L M hv g 0 cap (fun i hi => by rw [e5]; exact (h1 i hi).2.2) hn hbase

end Go.Proofs.YtilpehpiikdkbaaGreatDoor

namespace Go.Proofs.YtilpehpiikdkbaaGreatDoor
open Go.RowKit Go.Lib

theorem build0_tree8 (w : World) : (Instr.build 27 #[]).run Tryz.prog w = .ok (.agg #[.slice none 0 0, .slice none 0 0]) w := by kernel_rfl
section
variable (lv pv : Value) (L : List Lf) (P : List Pr) (w : World) (hL : Lvs w lv L) (hP : Pts w pv P) (hn : L.length ≤ 1000) (hp : P.length ≤ 1000) (hpl : ∀ p ∈ P, p.loose.length ≤ 1000) (hr : Tt.right L P = false)
include hL hP hn hp hpl hr
set_option maxRecDepth 100000 in
set_option maxHeartbeats 6400000 in
theorem rightornone_bad : Calls Tryz.prog 47 #[.agg #[lv, pv]] w fun e w' => e = .returned (.agg #[.slice none 0 0, .slice none 0 0]) ∧ Kept w.heap.size w.heap.size w w' := by
 have HRR := Lib.hid (fun (x : World) (k : Kept w.heap.size w.heap.size w x) => right_calls8 lv pv L P x (hL.kept k) (hP.kept k) hn hp hpl)
 rw [hr] at HRR
 obtain ⟨lad, lc, rfl⟩ := hL.shape
 obtain ⟨pad, pc, rfl⟩ := hP.shape
 obtain ⟨ln, hln⟩ : ∃ ln, ln = L.length := ⟨_, rfl⟩
 obtain ⟨pn, hpn⟩ : ∃ pn, pn = P.length := ⟨_, rfl⟩
 rw [← hln, ← hpn] at HRR ⊢
 clear hL hP hn hp hpl hr hln hpn
 have k1 := (Kept.refl w.heap.size w.heap.size w).alloc (Nat.le_refl _) (.cells #[.slice lad ln lc, .slice pad pn pc] 27)
 have t1 := heap_new w (.cells #[.slice lad ln lc, .slice pad pn pc] 27)
 have s1 : (w.alloc (.cells #[.slice lad ln lc, .slice pad pn pc] 27)).heap.size = w.heap.size + 1 := by simp
 go_enter Tryz.func47, Tryz.ntmps47
 go_upto_region 1 with fail
 generalize w.alloc (.cells #[.slice lad ln lc, .slice pad pn pc] 27) = wa at k1 t1 s1 ⊢
 have k3 := (Kept.refl wa.heap.size wa.heap.size wa).alloc (Nat.le_refl _) (.cells #[.slice none 0 0, .slice none 0 0] 27)
 have r3 := heap_new wa (.cells #[.slice none 0 0, .slice none 0 0] 27)
 have t3 := (k3.block _ (lt_of_block t1) (Nat.ne_of_lt (lt_of_block t1))).trans t1
 generalize wa.alloc (.cells #[.slice none 0 0, .slice none 0 0] 27) = w1 at k3 r3 t3 ⊢
 have K1 := Lib.hid (k1.next1 k3)
 rw [s1] at r3
 (try rw [s1])
 obtain ⟨tb, htb⟩ : ∃ tb, tb = w.heap.size := ⟨_, rfl⟩
 obtain ⟨rb, hrb⟩ : ∃ rb, rb = w.heap.size + 1 := ⟨_, rfl⟩
 rw [← hrb] at r3
 (try rw [← hrb])
 rw [← htb] at t3
 (try rw [← htb])
 have HRB := Lib.hid (show w.heap.size ≤ rb by omega)
 have T1 := Lib.hid t3
 have R1 := Lib.hid r3
 clear k1 t1 s1 k3 r3 t3 htb hrb
 refine wp_region_lit ?_
 refine @wpList_load_known _ _ _ _ _ _ _ ?hw61002 27 (.tmp 1) rfl (tb) (0) rfl (.agg #[.slice lad ln lc, .slice pad pn pc]) (run_loadVar_row w1 tb 27 27 _ (0, 0) _ T1.out Tryz.underlying27 rfl treeInfo) ?_
 case hw61002 => kernel_rfl
 simp only [Act.put, List.setIfInBounds_toArray, List.set_cons_zero, List.set_cons_succ]
 refine @BigFrame.wpList_want _ _ _ _ _ _ _ ?hw61001 ?_
 case hw61001 => kernel_rfl
 intro K hK
 go_simp
 go_at_call 11
 refine (HRR.out _ K1.out).mono ?_
 rintro e w2 ⟨rfl, k2⟩
 have K2 := Lib.hid (K1.out.next1 k2)
 have T2 := Lib.hid ((k2.block tb (lt_of_block T1.out) (Nat.ne_of_lt (lt_of_block T1.out))).trans T1.out)
 have R2 := Lib.hid ((k2.block rb (lt_of_block R1.out) (Nat.ne_of_lt (lt_of_block R1.out))).trans R1.out)
 clear k2
 refine hK _ _ ?_
 clear hK K
 refine @BigFrame.wpList_want _ _ _ _ _ _ _ ?hw61003 ?_
 case hw61003 => kernel_rfl
 intro K hK
 go_simp
 refine hK _ _ ?_
 clear hK K
 go_upto_region 2 with fail
 refine wp_region_lit ?_
 refine @wpL_build0 _ _ _ _ _ _ _ ?hw61005 27 rfl _ (build0_tree8 _) ?_
 case hw61005 => kernel_rfl
 simp only [Act.put, List.setIfInBounds_toArray, List.set_cons_zero, List.set_cons_succ]
 refine wpList_store_row rfl 27 _ _ rfl (rb) #[.slice none 0 0, .slice none 0 0] rfl rfl 27 #[.slice none 0 0, .slice none 0 0] R2.out treeInfo rfl (tree_all _ _ _ _ _ _) ?_
 simp only [Act.put]
 have R3 := setRow_heap w2 rb _ #[.slice none 0 0, .slice none 0 0] _ _ R2.out
 have K3 := Lib.hid (K2.out.grown (grown_setRow w2 rb #[.slice none 0 0, .slice none 0 0]) K2.out.size (fun k e => by cases e; exact HRB.out))
 generalize w2.setRow rb #[.slice none 0 0, .slice none 0 0] = w3 at R3 K3 ⊢
 go_wp2
 refine bodyPost_ret (results_cell_row rfl _ _ rb 27 _ (0, 0) _ rfl R3 Tryz.underlying27 rfl treeInfo) rfl ?_
 exact ⟨rfl, K3.out⟩
set_option maxRecDepth 100000 in
set_option maxHeartbeats 6400000 in
theorem hash_bad8 : Calls Tryz.prog 17 #[.agg #[lv, pv]] w fun e w' => e = .returned (.agg (bcells (Sm.sum Tt.noneB)).toArray) ∧ Kept w.heap.size w.heap.size w w' := by
 have HRN := Lib.hid (fun (x : World) (k : Kept w.heap.size w.heap.size w x) => rightornone_bad lv pv L P x (hL.kept k) (hP.kept k) hn hp hpl hr)
 have HSN := Lib.hid (fun (blk : Nat) (u : World) h => sum_single Tt.noneB blk u ⟨#[110, 111, 110, 101]⟩ rfl h (by decide))
 obtain ⟨lad, lc, rfl⟩ := hL.shape
 obtain ⟨pad, pc, rfl⟩ := hP.shape
 obtain ⟨ln, hln⟩ : ∃ ln, ln = L.length := ⟨_, rfl⟩
 obtain ⟨pn, hpn⟩ : ∃ pn, pn = P.length := ⟨_, rfl⟩
 obtain ⟨cu, hcu⟩ : ∃ cu, cu = (bcells (Sm.sum Tt.noneB)).toArray := ⟨_, rfl⟩
 have HCS := Lib.hid (show cu.size = 32 by rw [hcu, List.size_toArray, bcells_length, sum_len32])
 have HALL := Lib.hid (show cu.all (·.oneCell') = true by rw [hcu]; exact bcells_all _)
 rw [← hcu] at HSN ⊢
 rw [← hln, ← hpn] at HRN ⊢
 clear hL hP hn hp hpl hr hln hpn hcu
 have k1 := (Kept.refl w.heap.size w.heap.size w).alloc (Nat.le_refl _) (.cells #[.slice lad ln lc, .slice pad pn pc] 27)
 have t1 := heap_new w (.cells #[.slice lad ln lc, .slice pad pn pc] 27)
 have s1 : (w.alloc (.cells #[.slice lad ln lc, .slice pad pn pc] 27)).heap.size = w.heap.size + 1 := by simp
 go_enter Tryz.func17, Tryz.ntmps17
 go_upto_region 1 with fail
 rw [zeros32_eq]
 generalize w.alloc (.cells #[.slice lad ln lc, .slice pad pn pc] 27) = wa at k1 t1 s1 ⊢
 have k2 := (Kept.refl wa.heap.size wa.heap.size wa).alloc (Nat.le_refl _) (.cells zeros32 39)
 have r2 := heap_new wa (.cells zeros32 39)
 have t2 := (k2.block _ (lt_of_block t1) (Nat.ne_of_lt (lt_of_block t1))).trans t1
 generalize wa.alloc (.cells zeros32 39) = w1 at k2 r2 t2 ⊢
 have K1 := Lib.hid (k1.next1 k2)
 rw [s1] at r2
 (try rw [s1])
 obtain ⟨tb, htb⟩ : ∃ tb, tb = w.heap.size := ⟨_, rfl⟩
 obtain ⟨rb, hrb⟩ : ∃ rb, rb = w.heap.size + 1 := ⟨_, rfl⟩
 rw [← hrb] at r2
 (try rw [← hrb])
 rw [← htb] at t2
 (try rw [← htb])
 have HTR := Lib.hid (show tb ≠ rb by omega)
 have HTB := Lib.hid (show ¬ tb < w.heap.size by omega)
 have HRB := Lib.hid (show ¬ rb < w.heap.size by omega)
 have T1 := Lib.hid t2
 have R1 := Lib.hid r2
 clear k1 t1 s1 k2 r2 t2 htb hrb
 refine wp_region_lit ?_
 refine @wpList_load_known _ _ _ _ _ _ _ ?hw61007 27 (.tmp 1) rfl (tb) (0) rfl (.agg #[.slice lad ln lc, .slice pad pn pc]) (run_loadVar_row w1 tb 27 27 _ (0, 0) _ T1.out Tryz.underlying27 rfl treeInfo) ?_
 case hw61007 => kernel_rfl
 simp only [Act.put, List.setIfInBounds_toArray, List.set_cons_zero, List.set_cons_succ]
 refine @BigFrame.wpList_want _ _ _ _ _ _ _ ?hw61006 ?_
 case hw61006 => kernel_rfl
 intro K hK
 go_simp
 go_at_call 47
 refine (HRN.out _ K1.out).mono ?_
 rintro e w2 ⟨rfl, k2⟩
 have K2 := Lib.hid (K1.out.next1 k2)
 have T2 := Lib.hid ((k2.block tb (lt_of_block T1.out) (Nat.ne_of_lt (lt_of_block T1.out))).trans T1.out)
 have R2 := Lib.hid ((k2.block rb (lt_of_block R1.out) (Nat.ne_of_lt (lt_of_block R1.out))).trans R1.out)
 clear k2
 refine hK _ _ ?_
 clear hK K
 refine wpList_store_row rfl 27 _ _ rfl (tb) #[.slice none 0 0, .slice none 0 0] rfl rfl 27 #[.slice lad ln lc, .slice pad pn pc] T2.out treeInfo rfl (tree_all _ _ _ _ _ _) ?_
 simp only [Act.put]
 have T3 : Hid ((w2.setRow tb #[.slice none 0 0, .slice none 0 0]).heap[tb]? = some (.cells #[.slice none 0 0, .slice none 0 0] 27 (0, 0))) := Lib.hid (setRow_heap w2 tb _ #[.slice none 0 0, .slice none 0 0] _ _ T2.out)
 have g3 := grown_setRow w2 tb #[.slice none 0 0, .slice none 0 0]
 have K3 := Lib.hid (K2.out.grown g3 K2.out.size (fun k e => by cases e; exact Nat.le_of_not_lt HTB.out))
 have R3 := Lib.hid ((g3.block rb (lt_of_block R2.out) (fun e => HTR.out (Option.some.inj e).symm)).trans R2.out)
 generalize w2.setRow tb #[.slice none 0 0, .slice none 0 0] = w3 at T3 K3 R3 ⊢
 clear g3
 have t0 := two_cell0 T3.out
 go_upto_region 2 with fail
 refine wp_region_lit ?_
 refine @BigFrame.wpList_want _ _ _ _ _ _ _ ?hw61008 ?_
 case hw61008 => kernel_rfl
 intro K hK
 go_simp
 refine hK _ _ ?_
 clear hK K
 refine @BigFrame.wpList_want _ _ _ _ _ _ _ ?hw61009 ?_
 case hw61009 => kernel_rfl
 intro K hK
 go_simp
 refine hK _ _ ?_
 clear hK K
 refine @BigFrame.wpList_want _ _ _ _ _ _ _ ?hw61010 ?_
 case hw61010 => kernel_rfl
 intro K hK
 go_simp
 refine hK _ _ ?_
 clear hK K
 refine @BigFrame.wpList_want _ _ _ _ _ _ _ ?hw61011 ?_
 case hw61011 => kernel_rfl
 intro K hK
 go_simp
 refine hK _ _ ?_
 clear hK K
 clear t0
 go_upto_region 3 with fail
 refine wp_region_lit ?_
 refine @BigFrame.wpList_want _ _ _ _ _ _ _ ?hw61012 ?_
 case hw61012 => kernel_rfl
 intro K hK
 go_simp
 refine hK _ _ ?_
 clear hK K
 refine @BigFrame.wpList_want _ _ _ _ _ _ _ ?hw61013 ?_
 case hw61013 => kernel_rfl
 intro K hK
 go_simp
 go_at_call 54
 refine (HSN.out _ _ (heap_new w3 _)).mono ?_
 rintro e w6 ⟨rfl, k6⟩
 refine hK _ _ ?_
 clear hK K
 have ka := (Kept.refl w3.heap.size w3.heap.size w3).alloc (Nat.le_refl _) (.cells #[.string ⟨#[110, 111, 110, 101]⟩] 9)
 have R6 := Lib.hid (((ka.next1 k6).block rb (lt_of_block R3.out) (Nat.ne_of_lt (lt_of_block R3.out))).trans R3.out)
 have K6 := Lib.hid (K3.out.next1 (ka.next1 k6))
 clear ka k6
 refine wpList_store_row rfl 39 _ _ rfl (rb) cu rfl rfl 39 zeros32 R6.out (info30 HCS.out) (by rw [HCS.out]; rfl) HALL.out ?_
 simp only [Act.put]
 have RZ := setRow_heap w6 rb _ cu _ _ R6.out
 have KZ := Lib.hid (K6.out.grown (grown_setRow w6 rb cu) K6.out.size (fun k e => by cases e; exact Nat.le_of_not_lt HRB.out))
 generalize w6.setRow rb cu = wz at RZ KZ ⊢
 go_wp2
 refine bodyPost_ret (results_cell_row rfl _ _ rb 39 _ (0, 0) _ rfl RZ Tryz.underlying39 rfl (info30 HCS.out)) rfl ?_
 exact ⟨rfl, KZ.out⟩
set_option maxRecDepth 100000 in
set_option maxHeartbeats 6400000 in
theorem hashat_bad8 (x : Int) : Calls Tryz.prog 19 #[.agg #[lv, pv], .int .i64 x] w fun e w' => e = .returned (.agg zeros32) ∧ Kept w.heap.size w.heap.size w w' := by
 have HRN := Lib.hid (fun (x : World) (k : Kept w.heap.size w.heap.size w x) => rightornone_bad lv pv L P x (hL.kept k) (hP.kept k) hn hp hpl hr)
 have HN := Lib.hid (fun u => isnode8_no 0 x (by decide) (by omega) u)
 obtain ⟨lad, lc, rfl⟩ := hL.shape
 obtain ⟨pad, pc, rfl⟩ := hP.shape
 obtain ⟨ln, hln⟩ : ∃ ln, ln = L.length := ⟨_, rfl⟩
 obtain ⟨pn, hpn⟩ : ∃ pn, pn = P.length := ⟨_, rfl⟩
 rw [← hln, ← hpn] at HRN ⊢
 clear hL hP hn hp hpl hr hln hpn
 have k1 := (Kept.refl w.heap.size w.heap.size w).alloc (Nat.le_refl _) (.cells #[.slice lad ln lc, .slice pad pn pc] 27)
 have t1 := heap_new w (.cells #[.slice lad ln lc, .slice pad pn pc] 27)
 have s1 : (w.alloc (.cells #[.slice lad ln lc, .slice pad pn pc] 27)).heap.size = w.heap.size + 1 := by simp
 go_enter Tryz.func19, Tryz.ntmps19
 go_upto_region 1 with fail
 rw [zeros32_eq]
 generalize w.alloc (.cells #[.slice lad ln lc, .slice pad pn pc] 27) = wa at k1 t1 s1 ⊢
 have k2 := (Kept.refl wa.heap.size wa.heap.size wa).alloc (Nat.le_refl _) (.cells zeros32 39)
 have r2 := heap_new wa (.cells zeros32 39)
 have t2 := (k2.block _ (lt_of_block t1) (Nat.ne_of_lt (lt_of_block t1))).trans t1
 generalize wa.alloc (.cells zeros32 39) = w1 at k2 r2 t2 ⊢
 have K1 := Lib.hid (k1.next1 k2)
 rw [s1] at r2
 (try rw [s1])
 obtain ⟨tb, htb⟩ : ∃ tb, tb = w.heap.size := ⟨_, rfl⟩
 obtain ⟨rb, hrb⟩ : ∃ rb, rb = w.heap.size + 1 := ⟨_, rfl⟩
 rw [← hrb] at r2
 (try rw [← hrb])
 rw [← htb] at t2
 (try rw [← htb])
 have HTR := Lib.hid (show tb ≠ rb by omega)
 have HTB := Lib.hid (show ¬ tb < w.heap.size by omega)
 have HRB := Lib.hid (show ¬ rb < w.heap.size by omega)
 have T1 := Lib.hid t2
 have R1 := Lib.hid r2
 clear k1 t1 s1 k2 r2 t2 htb hrb
 refine wp_region_lit ?_
 refine @wpList_load_known _ _ _ _ _ _ _ ?hw61015 27 (.tmp 2) rfl (tb) (0) rfl (.agg #[.slice lad ln lc, .slice pad pn pc]) (run_loadVar_row w1 tb 27 27 _ (0, 0) _ T1.out Tryz.underlying27 rfl treeInfo) ?_
 case hw61015 => kernel_rfl
 simp only [Act.put, List.setIfInBounds_toArray, List.set_cons_zero, List.set_cons_succ]
 refine @BigFrame.wpList_want _ _ _ _ _ _ _ ?hw61014 ?_
 case hw61014 => kernel_rfl
 intro K hK
 go_simp
 go_at_call 47
 refine (HRN.out _ K1.out).mono ?_
 rintro e w2 ⟨rfl, k2⟩
 have K2 := Lib.hid (K1.out.next1 k2)
 have T2 := Lib.hid ((k2.block tb (lt_of_block T1.out) (Nat.ne_of_lt (lt_of_block T1.out))).trans T1.out)
 have R2 := Lib.hid ((k2.block rb (lt_of_block R1.out) (Nat.ne_of_lt (lt_of_block R1.out))).trans R1.out)
 clear k2
 refine hK _ _ ?_
 clear hK K
 refine wpList_store_row rfl 27 _ _ rfl (tb) #[.slice none 0 0, .slice none 0 0] rfl rfl 27 #[.slice lad ln lc, .slice pad pn pc] T2.out treeInfo rfl (tree_all _ _ _ _ _ _) ?_
 simp only [Act.put]
 have T3 : Hid ((w2.setRow tb #[.slice none 0 0, .slice none 0 0]).heap[tb]? = some (.cells #[.slice none 0 0, .slice none 0 0] 27 (0, 0))) := Lib.hid (setRow_heap w2 tb _ #[.slice none 0 0, .slice none 0 0] _ _ T2.out)
 have g3 := grown_setRow w2 tb #[.slice none 0 0, .slice none 0 0]
 have K3 := Lib.hid (K2.out.grown g3 K2.out.size (fun k e => by cases e; exact Nat.le_of_not_lt HTB.out))
 have R3 := Lib.hid ((g3.block rb (lt_of_block R2.out) (fun e => HTR.out (Option.some.inj e).symm)).trans R2.out)
 generalize w2.setRow tb #[.slice none 0 0, .slice none 0 0] = w3 at T3 K3 R3 ⊢
 clear g3
 have t0 := two_cell0 T3.out
 go_upto_region 2 with fail
 refine wp_region_lit ?_
 refine @BigFrame.wpList_want _ _ _ _ _ _ _ ?hw61017 ?_
 case hw61017 => kernel_rfl
 intro K hK
 go_simp
 refine hK _ _ ?_
 clear hK K
 refine @BigFrame.wpList_want _ _ _ _ _ _ _ ?hw61018 ?_
 case hw61018 => kernel_rfl
 intro K hK
 go_simp
 refine hK _ _ ?_
 clear hK K
 refine @BigFrame.wpList_want _ _ _ _ _ _ _ ?hw61019 ?_
 case hw61019 => kernel_rfl
 intro K hK
 go_simp
 refine hK _ _ ?_
 clear hK K
 refine @BigFrame.wpList_want _ _ _ _ _ _ _ ?hw61020 ?_
 case hw61020 => kernel_rfl
 intro K hK
 go_simp
 refine hK _ _ ?_
 clear hK K
 refine @BigFrame.wpList_want _ _ _ _ _ _ _ ?hw61016 ?_
 case hw61016 => kernel_rfl
 intro K hK
 go_simp
 go_at_call 49
 refine (HN.out _).mono ?_
 rintro e wx ⟨rfl, hwx⟩
 subst wx
 refine hK _ _ ?_
 clear hK K
 refine @BigFrame.wpList_want _ _ _ _ _ _ _ ?hw61021 ?_
 case hw61021 => kernel_rfl
 intro K hK
 go_simp
 refine hK _ _ ?_
 clear hK K
 clear t0
 go_upto_region 3 with fail
 refine wp_region_lit ?_
 refine @wpL_build0 _ _ _ _ _ _ _ ?hw61022 39 rfl _ (build0_hash8 _) ?_
 case hw61022 => kernel_rfl
 simp only [Act.put, List.setIfInBounds_toArray, List.set_cons_zero, List.set_cons_succ]
 refine wpList_store_row rfl 39 _ _ rfl (rb) zeros32 rfl rfl 39 zeros32 R3.out (info30 rfl) rfl zeros32_all ?_
 simp only [Act.put]
 have RZ := setRow_heap w3 rb _ zeros32 _ _ R3.out
 have KZ := Lib.hid (K3.out.grown (grown_setRow w3 rb zeros32) K3.out.size (fun k e => by cases e; exact Nat.le_of_not_lt HRB.out))
 generalize w3.setRow rb zeros32 = wz at RZ KZ ⊢
 go_wp2
 refine bodyPost_ret (results_cell_row rfl _ _ rb 39 _ (0, 0) _ rfl RZ Tryz.underlying39 rfl (info30 rfl)) rfl ?_
 exact ⟨rfl, KZ.out⟩
end

end Go.Proofs.YtilpehpiikdkbaaGreatDoor
