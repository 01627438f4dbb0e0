/-
  Add where it refuses.
-/
import Derived.Test.YtmmgekchfgmcdaaHA
import Derived.Test.YtmmgekchfgmcdaaHD
import Derived.Test.YtmmgekchfgmcdaaTreeSame

namespace Go.Proofs.Ytmmgekchfgmcdaa
open Go.RowKit Go.Lib

set_option maxRecDepth 100000 in
set_option maxHeartbeats 6400000 in
theorem add_bad1 (lv pv : Value) (L : List Lf) (P : List Pr) (l : Lf) (w : World) (hL : Lvs w lv L) (hP : Pts w pv P) (hn : L.length ≤ 1000) (hp : P.length ≤ 1000) (hpl : ∀ p ∈ P, p.loose.length ≤ 1000) (hlo : l.Ok) (hr : Tt.right L P = true) (hnn : (decide (1 ≤ l.name) && decide (l.name ≤ 64)) = false) :
    Calls Try.prog 17 #[.agg #[lv, pv], .agg l.cells.toArray] w fun e w' => e = .returned (.tuple #[.agg #[.slice none 0 0, .slice none 0 0], .int .i64 0, .int .i64 1]) ∧ Kept w.heap.size w.heap.size w w' := by
  have HRR := Lib.hid (fun (x : World) (k : Kept w.heap.size w.heap.size w x) => right_calls8 lv pv L P x (hL.kept k) (hP.kept k) hn hp hpl)
  rw [hr] at HRR
  clear hr
  have HIN := Lib.hid (fun x => (isname_calls l.name x).mono (fun e w' h => show e = .returned (.bool false) ∧ Kept x.heap.size x.heap.size x w' from ⟨by rw [h.1, hnn], kept_same h.2⟩))
  clear hnn
  obtain ⟨lad, lc, rfl⟩ := hL.shape
  obtain ⟨pad, pc, rfl⟩ := hP.shape
  obtain ⟨ln, hln⟩ : ∃ ln, ln = L.length := ⟨_, rfl⟩
  obtain ⟨pn, hpn⟩ : ∃ pn, pn = P.length := ⟨_, rfl⟩
  obtain ⟨nm, hnm⟩ : ∃ nm, nm = l.name := ⟨_, rfl⟩
  rw [← hln, ← hpn] at HRR ⊢
  rw [← hnm] at HIN
  have hln9 : (ln : Int) ≤ 1000 := by omega
  have HLN := Lib.hid hln
  have HPN := Lib.hid hpn
  have HOK := Lib.hid hlo
  have hlsz := Lf.size hlo
  have hlal := l.all
  have hD0 : l.cells.toArray[0]? = some (.int .i64 nm) := by rw [hnm]; exact l.at_name
  obtain ⟨D, hD⟩ : ∃ D, D = l.cells.toArray := ⟨_, rfl⟩
  rw [← hD] at hlsz hlal hD0 ⊢
  have HDE := Lib.hid hD
  have HSZ := Lib.hid hlsz
  have HAL := Lib.hid hlal
  clear hL hP hn hp hpl hlo hln hpn hnm hlsz hlal hD
  have k1 := (Kept.refl w.heap.size w.heap.size w).alloc (Nat.le_refl _) (.cells #[.slice lad ln lc, .slice pad pn pc] 27)
  have t1 := heap_new w (.cells #[.slice lad ln lc, .slice pad pn pc] 27)
  have s1 : (w.alloc (.cells #[.slice lad ln lc, .slice pad pn pc] 27)).heap.size = w.heap.size + 1 := by simp
  go_enter Try.func17, Try.ntmps17
  go_upto_region 1 with fail
  generalize w.alloc (.cells #[.slice lad ln lc, .slice pad pn pc] 27) = wa at k1 t1 s1 ⊢
  have k2 := (Kept.refl wa.heap.size wa.heap.size wa).alloc (Nat.le_refl _) (.cells D 36)
  have e2 := heap_new wa (.cells D 36)
  have s2 : (wa.alloc (.cells D 36)).heap.size = wa.heap.size + 1 := by simp
  have t2 := (k2.block _ (lt_of_block t1) (Nat.ne_of_lt (lt_of_block t1))).trans t1
  generalize wa.alloc (.cells D 36) = wb at k2 e2 s2 t2 ⊢
  have k3 := (Kept.refl wb.heap.size wb.heap.size wb).alloc (Nat.le_refl _) (.cells #[.slice none 0 0, .slice none 0 0] 27)
  have r3 := heap_new wb (.cells #[.slice none 0 0, .slice none 0 0] 27)
  have s3 : (wb.alloc (.cells #[.slice none 0 0, .slice none 0 0] 27)).heap.size = wb.heap.size + 1 := by simp
  have t3 := (k3.block _ (lt_of_block t2) (Nat.ne_of_lt (lt_of_block t2))).trans t2
  have e3 := (k3.block _ (lt_of_block e2) (Nat.ne_of_lt (lt_of_block e2))).trans e2
  generalize wb.alloc (.cells #[.slice none 0 0, .slice none 0 0] 27) = w1 at k3 r3 s3 t3 e3 ⊢
  have K1 := Lib.hid ((k1.next1 k2).next1 k3)
  rw [s2, s1] at r3 s3
  rw [s1] at e3
  (try rw [s2])
  (try rw [s1])
  obtain ⟨tb, htb⟩ : ∃ tb, tb = w.heap.size := ⟨_, rfl⟩
  obtain ⟨lb, hlb⟩ : ∃ lb, lb = w.heap.size + 1 := ⟨_, rfl⟩
  obtain ⟨rb, hrb⟩ : ∃ rb, rb = w.heap.size + 1 + 1 := ⟨_, rfl⟩
  rw [← hrb] at r3
  (try rw [← hrb])
  rw [← hlb] at e3
  (try rw [← hlb])
  rw [← htb] at t3
  (try rw [← htb])
  have HTR := Lib.hid (show tb ≠ rb by omega)
  have HTL := Lib.hid (show tb ≠ lb by omega)
  have HTB := Lib.hid (show ¬ tb < w.heap.size by omega)
  have HRB := Lib.hid (show ¬ rb < w.heap.size by omega)
  have HWS := Lib.hid (show w.heap.size ≤ w1.heap.size by omega)
  have T1 := Lib.hid t3
  have E1 := Lib.hid e3
  have R1 := Lib.hid r3
  have c0 : w1.cell? ⟨lb, 0, none⟩ = some (.int .i64 nm) := by rw [cell_of_row w1 lb 0 _ _ _ E1.out]; exact hD0
  clear k1 t1 s1 k2 e2 s2 t2 k3 r3 s3 t3 e3 htb hlb hrb
  refine wp_region_lit ?_
  refine @wpList_load_known _ _ _ _ _ _ _ ?hw48003 27 (.tmp 2) rfl (tb) (0) rfl (.agg #[.slice lad ln lc, .slice pad pn pc]) (run_loadVar_row w1 tb 27 27 _ (0, 0) _ T1.out Try.underlying27 rfl treeInfo) ?_
  case hw48003 => kernel_rfl
  simp only [Act.put, List.setIfInBounds_toArray, List.set_cons_zero, List.set_cons_succ]
  refine @BigFrame.wpList_want _ _ _ _ _ _ _ ?hw48001 ?_
  case hw48001 => kernel_rfl
  intro K hK
  go_simp
  go_at_call 15
  refine (HRR.out _ K1.out).mono ?_
  rintro e w2 ⟨rfl, k2⟩
  have K2 := Lib.hid (K1.out.next1 k2)
  have T2 := Lib.hid ((k2.block tb (lt_of_block T1.out) (Nat.ne_of_lt (lt_of_block T1.out))).trans T1.out)
  have R2 := Lib.hid ((k2.block rb (lt_of_block R1.out) (Nat.ne_of_lt (lt_of_block R1.out))).trans R1.out)
  have E2 := Lib.hid ((k2.block lb (lt_of_block E1.out) (Nat.ne_of_lt (lt_of_block E1.out))).trans E1.out)
  clear k2
  clear c0
  have c0 : w2.cell? ⟨lb, 0, none⟩ = some (.int .i64 nm) := by rw [cell_of_row w2 lb 0 _ _ _ E2.out]; exact hD0
  refine hK _ _ ?_
  clear hK K
  refine @BigFrame.wpList_want _ _ _ _ _ _ _ ?hw48004 ?_
  case hw48004 => kernel_rfl
  intro K hK
  go_simp
  refine hK _ _ ?_
  clear hK K
  refine @BigFrame.wpList_want _ _ _ _ _ _ _ ?hw48005 ?_
  case hw48005 => kernel_rfl
  intro K hK
  go_simp
  refine hK _ _ ?_
  clear hK K
  refine @BigFrame.wpList_want _ _ _ _ _ _ _ ?hw48006 ?_
  case hw48006 => kernel_rfl
  intro K hK
  go_simp
  refine hK _ _ ?_
  clear hK K
  refine @BigFrame.wpList_want _ _ _ _ _ _ _ ?hw48007 ?_
  case hw48007 => kernel_rfl
  intro K hK
  go_simp
  refine hK _ _ ?_
  clear hK K
  refine @BigFrame.wpList_want _ _ _ _ _ _ _ ?hw48002 ?_
  case hw48002 => kernel_rfl
  intro K hK
  go_simp
  go_at_call 45
  refine (HIN.out _).mono ?_
  rintro e w3 ⟨rfl, k3⟩
  have K3 := Lib.hid (K2.out.next1 k3)
  have T3 := Lib.hid ((k3.block tb (lt_of_block T2.out) (Nat.ne_of_lt (lt_of_block T2.out))).trans T2.out)
  have R3 := Lib.hid ((k3.block rb (lt_of_block R2.out) (Nat.ne_of_lt (lt_of_block R2.out))).trans R2.out)
  have E3 := Lib.hid ((k3.block lb (lt_of_block E2.out) (Nat.ne_of_lt (lt_of_block E2.out))).trans E2.out)
  clear k3
  clear c0
  have c0 : w3.cell? ⟨lb, 0, none⟩ = some (.int .i64 nm) := by rw [cell_of_row w3 lb 0 _ _ _ E3.out]; exact hD0
  refine hK _ _ ?_
  clear hK K
  refine @BigFrame.wpList_want _ _ _ _ _ _ _ ?hw48008 ?_
  case hw48008 => kernel_rfl
  intro K hK
  go_simp
  refine hK _ _ ?_
  clear hK K
  refine @BigFrame.wpList_want _ _ _ _ _ _ _ ?hw48009 ?_
  case hw48009 => kernel_rfl
  intro K hK
  go_simp
  refine hK _ _ ?_
  clear hK K
  clear c0
  go_upto_region 2 with fail
  refine wp_region_lit ?_
  refine @wpL_build0 _ _ _ _ _ _ _ ?hw48010 27 rfl _ (build_tree0 _) ?_
  case hw48010 => kernel_rfl
  simp only [Act.put, List.setIfInBounds_toArray, List.set_cons_zero, List.set_cons_succ]
  refine wpList_store_row rfl 27 _ _ rfl (rb) #[.slice none 0 0, .slice none 0 0] rfl rfl 27 #[.slice none 0 0, .slice none 0 0] R3.out treeInfo rfl (tree_all _ _ _ _ _ _) ?_
  simp only [Act.put]
  refine @BigFrame.wpList_want _ _ _ _ _ _ _ ?hw48011 ?_
  case hw48011 => kernel_rfl
  intro K hK
  go_simp
  refine hK _ _ ?_
  clear hK K
  refine @BigFrame.wpList_want _ _ _ _ _ _ _ ?hw48012 ?_
  case hw48012 => kernel_rfl
  intro K hK
  go_simp
  refine hK _ _ ?_
  clear hK K
  have RZ := setRow_heap w3 rb _ #[.slice none 0 0, .slice none 0 0] _ _ R3.out
  have KZ := Lib.hid (K3.out.grown (grown_setRow w3 rb #[.slice none 0 0, .slice none 0 0]) K3.out.size (fun k e => by cases e; exact Nat.le_of_not_lt HRB.out))
  generalize w3.setRow rb #[.slice none 0 0, .slice none 0 0] = wz at RZ KZ ⊢
  go_wp2
  refine bodyPost_ret (results_row3 rfl _ _ rb 27 _ (0, 0) _ rfl RZ Try.underlying27 rfl treeInfo) rfl ?_
  exact ⟨rfl, KZ.out⟩

set_option maxRecDepth 100000 in
set_option maxHeartbeats 6400000 in
theorem add_bad8 (lv pv : Value) (L : List Lf) (P : List Pr) (l : Lf) (w : World) (hL : Lvs w lv L) (hP : Pts w pv P) (hn : L.length ≤ 1000) (hp : P.length ≤ 1000) (hpl : ∀ p ∈ P, p.loose.length ≤ 1000) (hlo : l.Ok) (hr : Tt.right L P = true) (hnn : (decide (1 ≤ l.name) && decide (l.name ≤ 64)) = true) (hix : 0 ≤ Tt.index L l.name) :
    Calls Try.prog 17 #[.agg #[lv, pv], .agg l.cells.toArray] w fun e w' => e = .returned (.tuple #[.agg #[.slice none 0 0, .slice none 0 0], .int .i64 0, .int .i64 8]) ∧ Kept w.heap.size w.heap.size w w' := by
  have hpla : Tt.place L P l.name = Tt.index L l.name := by
    unfold Tt.place
    rw [hr, hnn]
    rfl
  have HPL := Lib.hid (fun (x : World) (k : Kept w.heap.size w.heap.size w x) => place_calls8 lv pv L P l.name x (hL.kept k) (hP.kept k) hn hp hpl)
  rw [hpla] at HPL
  have HRR := Lib.hid (fun (x : World) (k : Kept w.heap.size w.heap.size w x) => right_calls8 lv pv L P x (hL.kept k) (hP.kept k) hn hp hpl)
  rw [hr] at HRR
  clear hr
  have HIN := Lib.hid (fun x => (isname_calls l.name x).mono (fun e w' h => show e = .returned (.bool true) ∧ Kept x.heap.size x.heap.size x w' from ⟨by rw [h.1, hnn], kept_same h.2⟩))
  obtain ⟨pl, hpe⟩ : ∃ pl, pl = Tt.index L l.name := ⟨_, rfl⟩
  rw [← hpe] at HPL hix
  clear hpla hnn hpe
  obtain ⟨lad, lc, rfl⟩ := hL.shape
  obtain ⟨pad, pc, rfl⟩ := hP.shape
  obtain ⟨ln, hln⟩ : ∃ ln, ln = L.length := ⟨_, rfl⟩
  obtain ⟨pn, hpn⟩ : ∃ pn, pn = P.length := ⟨_, rfl⟩
  obtain ⟨nm, hnm⟩ : ∃ nm, nm = l.name := ⟨_, rfl⟩
  rw [← hln, ← hpn] at HRR HPL ⊢
  rw [← hnm] at HIN HPL
  have hln9 : (ln : Int) ≤ 1000 := by omega
  have HLN := Lib.hid hln
  have HPN := Lib.hid hpn
  have HOK := Lib.hid hlo
  have hlsz := Lf.size hlo
  have hlal := l.all
  have hD0 : l.cells.toArray[0]? = some (.int .i64 nm) := by rw [hnm]; exact l.at_name
  obtain ⟨D, hD⟩ : ∃ D, D = l.cells.toArray := ⟨_, rfl⟩
  rw [← hD] at hlsz hlal hD0 ⊢
  have HDE := Lib.hid hD
  have HSZ := Lib.hid hlsz
  have HAL := Lib.hid hlal
  clear hL hP hn hp hpl hlo hln hpn hnm hlsz hlal hD
  have k1 := (Kept.refl w.heap.size w.heap.size w).alloc (Nat.le_refl _) (.cells #[.slice lad ln lc, .slice pad pn pc] 27)
  have t1 := heap_new w (.cells #[.slice lad ln lc, .slice pad pn pc] 27)
  have s1 : (w.alloc (.cells #[.slice lad ln lc, .slice pad pn pc] 27)).heap.size = w.heap.size + 1 := by simp
  go_enter Try.func17, Try.ntmps17
  go_upto_region 1 with fail
  generalize w.alloc (.cells #[.slice lad ln lc, .slice pad pn pc] 27) = wa at k1 t1 s1 ⊢
  have k2 := (Kept.refl wa.heap.size wa.heap.size wa).alloc (Nat.le_refl _) (.cells D 36)
  have e2 := heap_new wa (.cells D 36)
  have s2 : (wa.alloc (.cells D 36)).heap.size = wa.heap.size + 1 := by simp
  have t2 := (k2.block _ (lt_of_block t1) (Nat.ne_of_lt (lt_of_block t1))).trans t1
  generalize wa.alloc (.cells D 36) = wb at k2 e2 s2 t2 ⊢
  have k3 := (Kept.refl wb.heap.size wb.heap.size wb).alloc (Nat.le_refl _) (.cells #[.slice none 0 0, .slice none 0 0] 27)
  have r3 := heap_new wb (.cells #[.slice none 0 0, .slice none 0 0] 27)
  have s3 : (wb.alloc (.cells #[.slice none 0 0, .slice none 0 0] 27)).heap.size = wb.heap.size + 1 := by simp
  have t3 := (k3.block _ (lt_of_block t2) (Nat.ne_of_lt (lt_of_block t2))).trans t2
  have e3 := (k3.block _ (lt_of_block e2) (Nat.ne_of_lt (lt_of_block e2))).trans e2
  generalize wb.alloc (.cells #[.slice none 0 0, .slice none 0 0] 27) = w1 at k3 r3 s3 t3 e3 ⊢
  have K1 := Lib.hid ((k1.next1 k2).next1 k3)
  rw [s2, s1] at r3 s3
  rw [s1] at e3
  (try rw [s2])
  (try rw [s1])
  obtain ⟨tb, htb⟩ : ∃ tb, tb = w.heap.size := ⟨_, rfl⟩
  obtain ⟨lb, hlb⟩ : ∃ lb, lb = w.heap.size + 1 := ⟨_, rfl⟩
  obtain ⟨rb, hrb⟩ : ∃ rb, rb = w.heap.size + 1 + 1 := ⟨_, rfl⟩
  rw [← hrb] at r3
  (try rw [← hrb])
  rw [← hlb] at e3
  (try rw [← hlb])
  rw [← htb] at t3
  (try rw [← htb])
  have HTR := Lib.hid (show tb ≠ rb by omega)
  have HTL := Lib.hid (show tb ≠ lb by omega)
  have HTB := Lib.hid (show ¬ tb < w.heap.size by omega)
  have HRB := Lib.hid (show ¬ rb < w.heap.size by omega)
  have HWS := Lib.hid (show w.heap.size ≤ w1.heap.size by omega)
  have T1 := Lib.hid t3
  have E1 := Lib.hid e3
  have R1 := Lib.hid r3
  have c0 : w1.cell? ⟨lb, 0, none⟩ = some (.int .i64 nm) := by rw [cell_of_row w1 lb 0 _ _ _ E1.out]; exact hD0
  clear k1 t1 s1 k2 e2 s2 t2 k3 r3 s3 t3 e3 htb hlb hrb
  refine wp_region_lit ?_
  refine @wpList_load_known _ _ _ _ _ _ _ ?hw48015 27 (.tmp 2) rfl (tb) (0) rfl (.agg #[.slice lad ln lc, .slice pad pn pc]) (run_loadVar_row w1 tb 27 27 _ (0, 0) _ T1.out Try.underlying27 rfl treeInfo) ?_
  case hw48015 => kernel_rfl
  simp only [Act.put, List.setIfInBounds_toArray, List.set_cons_zero, List.set_cons_succ]
  refine @BigFrame.wpList_want _ _ _ _ _ _ _ ?hw48013 ?_
  case hw48013 => kernel_rfl
  intro K hK
  go_simp
  go_at_call 15
  refine (HRR.out _ K1.out).mono ?_
  rintro e w2 ⟨rfl, k2⟩
  have K2 := Lib.hid (K1.out.next1 k2)
  have T2 := Lib.hid ((k2.block tb (lt_of_block T1.out) (Nat.ne_of_lt (lt_of_block T1.out))).trans T1.out)
  have R2 := Lib.hid ((k2.block rb (lt_of_block R1.out) (Nat.ne_of_lt (lt_of_block R1.out))).trans R1.out)
  have E2 := Lib.hid ((k2.block lb (lt_of_block E1.out) (Nat.ne_of_lt (lt_of_block E1.out))).trans E1.out)
  clear k2
  clear c0
  have c0 : w2.cell? ⟨lb, 0, none⟩ = some (.int .i64 nm) := by rw [cell_of_row w2 lb 0 _ _ _ E2.out]; exact hD0
  refine hK _ _ ?_
  clear hK K
  refine @BigFrame.wpList_want _ _ _ _ _ _ _ ?hw48016 ?_
  case hw48016 => kernel_rfl
  intro K hK
  go_simp
  refine hK _ _ ?_
  clear hK K
  refine @BigFrame.wpList_want _ _ _ _ _ _ _ ?hw48017 ?_
  case hw48017 => kernel_rfl
  intro K hK
  go_simp
  refine hK _ _ ?_
  clear hK K
  refine @BigFrame.wpList_want _ _ _ _ _ _ _ ?hw48018 ?_
  case hw48018 => kernel_rfl
  intro K hK
  go_simp
  refine hK _ _ ?_
  clear hK K
  refine @BigFrame.wpList_want _ _ _ _ _ _ _ ?hw48019 ?_
  case hw48019 => kernel_rfl
  intro K hK
  go_simp
  refine hK _ _ ?_
  clear hK K
  refine @BigFrame.wpList_want _ _ _ _ _ _ _ ?hw48014 ?_
  case hw48014 => kernel_rfl
  intro K hK
  go_simp
  go_at_call 45
  refine (HIN.out _).mono ?_
  rintro e w3 ⟨rfl, k3⟩
  have K3 := Lib.hid (K2.out.next1 k3)
  have T3 := Lib.hid ((k3.block tb (lt_of_block T2.out) (Nat.ne_of_lt (lt_of_block T2.out))).trans T2.out)
  have R3 := Lib.hid ((k3.block rb (lt_of_block R2.out) (Nat.ne_of_lt (lt_of_block R2.out))).trans R2.out)
  have E3 := Lib.hid ((k3.block lb (lt_of_block E2.out) (Nat.ne_of_lt (lt_of_block E2.out))).trans E2.out)
  clear k3
  clear c0
  have c0 : w3.cell? ⟨lb, 0, none⟩ = some (.int .i64 nm) := by rw [cell_of_row w3 lb 0 _ _ _ E3.out]; exact hD0
  refine hK _ _ ?_
  clear hK K
  refine @BigFrame.wpList_want _ _ _ _ _ _ _ ?hw48020 ?_
  case hw48020 => kernel_rfl
  intro K hK
  go_simp
  refine hK _ _ ?_
  clear hK K
  refine @BigFrame.wpList_want _ _ _ _ _ _ _ ?hw48021 ?_
  case hw48021 => kernel_rfl
  intro K hK
  go_simp
  refine hK _ _ ?_
  clear hK K
  have hpge : pl ≥ 0 := hix
  have hpge2 : (0 : Int) ≤ pl := hix
  clear hix
  go_upto_region 3 with fail
  refine wp_region_lit ?_
  refine @wpList_load_known _ _ _ _ _ _ _ ?hw48023 27 (.tmp 2) rfl (tb) (0) rfl (.agg #[.slice lad ln lc, .slice pad pn pc]) (run_loadVar_row w3 tb 27 27 _ (0, 0) _ T3.out Try.underlying27 rfl treeInfo) ?_
  case hw48023 => kernel_rfl
  simp only [Act.put, List.setIfInBounds_toArray, List.set_cons_zero, List.set_cons_succ]
  refine @BigFrame.wpList_want _ _ _ _ _ _ _ ?hw48024 ?_
  case hw48024 => kernel_rfl
  intro K hK
  go_simp
  refine hK _ _ ?_
  clear hK K
  refine @BigFrame.wpList_want _ _ _ _ _ _ _ ?hw48025 ?_
  case hw48025 => kernel_rfl
  intro K hK
  go_simp
  refine hK _ _ ?_
  clear hK K
  refine @BigFrame.wpList_want _ _ _ _ _ _ _ ?hw48022 ?_
  case hw48022 => kernel_rfl
  intro K hK
  go_simp
  go_at_call 24
  refine (HPL.out _ K3.out).mono ?_
  rintro e w4 ⟨rfl, k4⟩
  have K4 := Lib.hid (K3.out.next1 k4)
  have T4 := Lib.hid ((k4.block tb (lt_of_block T3.out) (Nat.ne_of_lt (lt_of_block T3.out))).trans T3.out)
  have R4 := Lib.hid ((k4.block rb (lt_of_block R3.out) (Nat.ne_of_lt (lt_of_block R3.out))).trans R3.out)
  have E4 := Lib.hid ((k4.block lb (lt_of_block E3.out) (Nat.ne_of_lt (lt_of_block E3.out))).trans E3.out)
  clear k4
  clear c0
  refine hK _ _ ?_
  clear hK K
  refine @BigFrame.wpList_want _ _ _ _ _ _ _ ?hw48026 ?_
  case hw48026 => kernel_rfl
  intro K hK
  go_simp
  refine hK _ _ ?_
  clear hK K
  go_upto_region 4 with fail
  refine wp_region_lit ?_
  refine @wpL_build0 _ _ _ _ _ _ _ ?hw48027 27 rfl _ (build_tree0 _) ?_
  case hw48027 => kernel_rfl
  simp only [Act.put, List.setIfInBounds_toArray, List.set_cons_zero, List.set_cons_succ]
  refine wpList_store_row rfl 27 _ _ rfl (rb) #[.slice none 0 0, .slice none 0 0] rfl rfl 27 #[.slice none 0 0, .slice none 0 0] R4.out treeInfo rfl (tree_all _ _ _ _ _ _) ?_
  simp only [Act.put]
  refine @BigFrame.wpList_want _ _ _ _ _ _ _ ?hw48028 ?_
  case hw48028 => kernel_rfl
  intro K hK
  go_simp
  refine hK _ _ ?_
  clear hK K
  refine @BigFrame.wpList_want _ _ _ _ _ _ _ ?hw48029 ?_
  case hw48029 => kernel_rfl
  intro K hK
  go_simp
  refine hK _ _ ?_
  clear hK K
  have RZ := setRow_heap w4 rb _ #[.slice none 0 0, .slice none 0 0] _ _ R4.out
  have KZ := Lib.hid (K4.out.grown (grown_setRow w4 rb #[.slice none 0 0, .slice none 0 0]) K4.out.size (fun k e => by cases e; exact Nat.le_of_not_lt HRB.out))
  generalize w4.setRow rb #[.slice none 0 0, .slice none 0 0] = wz at RZ KZ ⊢
  go_wp2
  refine bodyPost_ret (results_row3 rfl _ _ rb 27 _ (0, 0) _ rfl RZ Try.underlying27 rfl treeInfo) rfl ?_
  exact ⟨rfl, KZ.out⟩

set_option maxRecDepth 100000 in
set_option maxHeartbeats 6400000 in
theorem add_bad9 (lv pv : Value) (L : List Lf) (P : List Pr) (l : Lf) (w : World) (hL : Lvs w lv L) (hP : Pts w pv P) (hn : L.length ≤ 1000) (hp : P.length ≤ 1000) (hpl : ∀ p ∈ P, p.loose.length ≤ 1000) (hlo : l.Ok) (hr : Tt.right L P = true) (hnn : (decide (1 ≤ l.name) && decide (l.name ≤ 64)) = true) (hix : Tt.index L l.name = -1) (hfb : Tt.firstBlank L = 64) :
    Calls Try.prog 17 #[.agg #[lv, pv], .agg l.cells.toArray] w fun e w' => e = .returned (.tuple #[.agg #[.slice none 0 0, .slice none 0 0], .int .i64 0, .int .i64 9]) ∧ Kept w.heap.size w.heap.size w w' := by
  have hpla : Tt.place L P l.name = Tt.index L l.name := by
    unfold Tt.place
    rw [hr, hnn]
    rfl
  have HPL := Lib.hid (fun (x : World) (k : Kept w.heap.size w.heap.size w x) => place_calls8 lv pv L P l.name x (hL.kept k) (hP.kept k) hn hp hpl)
  rw [hpla] at HPL
  have HRR := Lib.hid (fun (x : World) (k : Kept w.heap.size w.heap.size w x) => right_calls8 lv pv L P x (hL.kept k) (hP.kept k) hn hp hpl)
  rw [hr] at HRR
  clear hr
  have HIN := Lib.hid (fun x => (isname_calls l.name x).mono (fun e w' h => show e = .returned (.bool true) ∧ Kept x.heap.size x.heap.size x w' from ⟨by rw [h.1, hnn], kept_same h.2⟩))
  rw [hix] at HPL
  have HFB := Lib.hid (fun (x : World) (k : Kept w.heap.size w.heap.size w x) => firstblank_calls lv L x (hL.kept k) hn)
  rw [hfb] at HFB
  clear hpla hnn hix hfb
  obtain ⟨lad, lc, rfl⟩ := hL.shape
  obtain ⟨pad, pc, rfl⟩ := hP.shape
  obtain ⟨ln, hln⟩ : ∃ ln, ln = L.length := ⟨_, rfl⟩
  obtain ⟨pn, hpn⟩ : ∃ pn, pn = P.length := ⟨_, rfl⟩
  obtain ⟨nm, hnm⟩ : ∃ nm, nm = l.name := ⟨_, rfl⟩
  rw [← hln, ← hpn] at HRR HPL ⊢
  rw [← hln] at HFB
  rw [← hnm] at HIN HPL
  have hln9 : (ln : Int) ≤ 1000 := by omega
  have HLN := Lib.hid hln
  have HPN := Lib.hid hpn
  have HOK := Lib.hid hlo
  have hlsz := Lf.size hlo
  have hlal := l.all
  have hD0 : l.cells.toArray[0]? = some (.int .i64 nm) := by rw [hnm]; exact l.at_name
  obtain ⟨D, hD⟩ : ∃ D, D = l.cells.toArray := ⟨_, rfl⟩
  rw [← hD] at hlsz hlal hD0 ⊢
  have HDE := Lib.hid hD
  have HSZ := Lib.hid hlsz
  have HAL := Lib.hid hlal
  clear hL hP hn hp hpl hlo hln hpn hnm hlsz hlal hD
  have k1 := (Kept.refl w.heap.size w.heap.size w).alloc (Nat.le_refl _) (.cells #[.slice lad ln lc, .slice pad pn pc] 27)
  have t1 := heap_new w (.cells #[.slice lad ln lc, .slice pad pn pc] 27)
  have s1 : (w.alloc (.cells #[.slice lad ln lc, .slice pad pn pc] 27)).heap.size = w.heap.size + 1 := by simp
  go_enter Try.func17, Try.ntmps17
  go_upto_region 1 with fail
  generalize w.alloc (.cells #[.slice lad ln lc, .slice pad pn pc] 27) = wa at k1 t1 s1 ⊢
  have k2 := (Kept.refl wa.heap.size wa.heap.size wa).alloc (Nat.le_refl _) (.cells D 36)
  have e2 := heap_new wa (.cells D 36)
  have s2 : (wa.alloc (.cells D 36)).heap.size = wa.heap.size + 1 := by simp
  have t2 := (k2.block _ (lt_of_block t1) (Nat.ne_of_lt (lt_of_block t1))).trans t1
  generalize wa.alloc (.cells D 36) = wb at k2 e2 s2 t2 ⊢
  have k3 := (Kept.refl wb.heap.size wb.heap.size wb).alloc (Nat.le_refl _) (.cells #[.slice none 0 0, .slice none 0 0] 27)
  have r3 := heap_new wb (.cells #[.slice none 0 0, .slice none 0 0] 27)
  have s3 : (wb.alloc (.cells #[.slice none 0 0, .slice none 0 0] 27)).heap.size = wb.heap.size + 1 := by simp
  have t3 := (k3.block _ (lt_of_block t2) (Nat.ne_of_lt (lt_of_block t2))).trans t2
  have e3 := (k3.block _ (lt_of_block e2) (Nat.ne_of_lt (lt_of_block e2))).trans e2
  generalize wb.alloc (.cells #[.slice none 0 0, .slice none 0 0] 27) = w1 at k3 r3 s3 t3 e3 ⊢
  have K1 := Lib.hid ((k1.next1 k2).next1 k3)
  rw [s2, s1] at r3 s3
  rw [s1] at e3
  (try rw [s2])
  (try rw [s1])
  obtain ⟨tb, htb⟩ : ∃ tb, tb = w.heap.size := ⟨_, rfl⟩
  obtain ⟨lb, hlb⟩ : ∃ lb, lb = w.heap.size + 1 := ⟨_, rfl⟩
  obtain ⟨rb, hrb⟩ : ∃ rb, rb = w.heap.size + 1 + 1 := ⟨_, rfl⟩
  rw [← hrb] at r3
  (try rw [← hrb])
  rw [← hlb] at e3
  (try rw [← hlb])
  rw [← htb] at t3
  (try rw [← htb])
  have HTR := Lib.hid (show tb ≠ rb by omega)
  have HTL := Lib.hid (show tb ≠ lb by omega)
  have HTB := Lib.hid (show ¬ tb < w.heap.size by omega)
  have HRB := Lib.hid (show ¬ rb < w.heap.size by omega)
  have HWS := Lib.hid (show w.heap.size ≤ w1.heap.size by omega)
  have T1 := Lib.hid t3
  have E1 := Lib.hid e3
  have R1 := Lib.hid r3
  have c0 : w1.cell? ⟨lb, 0, none⟩ = some (.int .i64 nm) := by rw [cell_of_row w1 lb 0 _ _ _ E1.out]; exact hD0
  clear k1 t1 s1 k2 e2 s2 t2 k3 r3 s3 t3 e3 htb hlb hrb
  refine wp_region_lit ?_
  refine @wpList_load_known _ _ _ _ _ _ _ ?hw48032 27 (.tmp 2) rfl (tb) (0) rfl (.agg #[.slice lad ln lc, .slice pad pn pc]) (run_loadVar_row w1 tb 27 27 _ (0, 0) _ T1.out Try.underlying27 rfl treeInfo) ?_
  case hw48032 => kernel_rfl
  simp only [Act.put, List.setIfInBounds_toArray, List.set_cons_zero, List.set_cons_succ]
  refine @BigFrame.wpList_want _ _ _ _ _ _ _ ?hw48030 ?_
  case hw48030 => kernel_rfl
  intro K hK
  go_simp
  go_at_call 15
  refine (HRR.out _ K1.out).mono ?_
  rintro e w2 ⟨rfl, k2⟩
  have K2 := Lib.hid (K1.out.next1 k2)
  have T2 := Lib.hid ((k2.block tb (lt_of_block T1.out) (Nat.ne_of_lt (lt_of_block T1.out))).trans T1.out)
  have R2 := Lib.hid ((k2.block rb (lt_of_block R1.out) (Nat.ne_of_lt (lt_of_block R1.out))).trans R1.out)
  have E2 := Lib.hid ((k2.block lb (lt_of_block E1.out) (Nat.ne_of_lt (lt_of_block E1.out))).trans E1.out)
  clear k2
  clear c0
  have c0 : w2.cell? ⟨lb, 0, none⟩ = some (.int .i64 nm) := by rw [cell_of_row w2 lb 0 _ _ _ E2.out]; exact hD0
  refine hK _ _ ?_
  clear hK K
  refine @BigFrame.wpList_want _ _ _ _ _ _ _ ?hw48033 ?_
  case hw48033 => kernel_rfl
  intro K hK
  go_simp
  refine hK _ _ ?_
  clear hK K
  refine @BigFrame.wpList_want _ _ _ _ _ _ _ ?hw48034 ?_
  case hw48034 => kernel_rfl
  intro K hK
  go_simp
  refine hK _ _ ?_
  clear hK K
  refine @BigFrame.wpList_want _ _ _ _ _ _ _ ?hw48035 ?_
  case hw48035 => kernel_rfl
  intro K hK
  go_simp
  refine hK _ _ ?_
  clear hK K
  refine @BigFrame.wpList_want _ _ _ _ _ _ _ ?hw48036 ?_
  case hw48036 => kernel_rfl
  intro K hK
  go_simp
  refine hK _ _ ?_
  clear hK K
  refine @BigFrame.wpList_want _ _ _ _ _ _ _ ?hw48031 ?_
  case hw48031 => kernel_rfl
  intro K hK
  go_simp
  go_at_call 45
  refine (HIN.out _).mono ?_
  rintro e w3 ⟨rfl, k3⟩
  have K3 := Lib.hid (K2.out.next1 k3)
  have T3 := Lib.hid ((k3.block tb (lt_of_block T2.out) (Nat.ne_of_lt (lt_of_block T2.out))).trans T2.out)
  have R3 := Lib.hid ((k3.block rb (lt_of_block R2.out) (Nat.ne_of_lt (lt_of_block R2.out))).trans R2.out)
  have E3 := Lib.hid ((k3.block lb (lt_of_block E2.out) (Nat.ne_of_lt (lt_of_block E2.out))).trans E2.out)
  clear k3
  clear c0
  have c0 : w3.cell? ⟨lb, 0, none⟩ = some (.int .i64 nm) := by rw [cell_of_row w3 lb 0 _ _ _ E3.out]; exact hD0
  refine hK _ _ ?_
  clear hK K
  refine @BigFrame.wpList_want _ _ _ _ _ _ _ ?hw48037 ?_
  case hw48037 => kernel_rfl
  intro K hK
  go_simp
  refine hK _ _ ?_
  clear hK K
  refine @BigFrame.wpList_want _ _ _ _ _ _ _ ?hw48038 ?_
  case hw48038 => kernel_rfl
  intro K hK
  go_simp
  refine hK _ _ ?_
  clear hK K
  go_upto_region 3 with fail
  refine wp_region_lit ?_
  refine @wpList_load_known _ _ _ _ _ _ _ ?hw48040 27 (.tmp 2) rfl (tb) (0) rfl (.agg #[.slice lad ln lc, .slice pad pn pc]) (run_loadVar_row w3 tb 27 27 _ (0, 0) _ T3.out Try.underlying27 rfl treeInfo) ?_
  case hw48040 => kernel_rfl
  simp only [Act.put, List.setIfInBounds_toArray, List.set_cons_zero, List.set_cons_succ]
  refine @BigFrame.wpList_want _ _ _ _ _ _ _ ?hw48041 ?_
  case hw48041 => kernel_rfl
  intro K hK
  go_simp
  refine hK _ _ ?_
  clear hK K
  refine @BigFrame.wpList_want _ _ _ _ _ _ _ ?hw48042 ?_
  case hw48042 => kernel_rfl
  intro K hK
  go_simp
  refine hK _ _ ?_
  clear hK K
  refine @BigFrame.wpList_want _ _ _ _ _ _ _ ?hw48039 ?_
  case hw48039 => kernel_rfl
  intro K hK
  go_simp
  go_at_call 24
  refine (HPL.out _ K3.out).mono ?_
  rintro e w4 ⟨rfl, k4⟩
  have K4 := Lib.hid (K3.out.next1 k4)
  have T4 := Lib.hid ((k4.block tb (lt_of_block T3.out) (Nat.ne_of_lt (lt_of_block T3.out))).trans T3.out)
  have R4 := Lib.hid ((k4.block rb (lt_of_block R3.out) (Nat.ne_of_lt (lt_of_block R3.out))).trans R3.out)
  have E4 := Lib.hid ((k4.block lb (lt_of_block E3.out) (Nat.ne_of_lt (lt_of_block E3.out))).trans E3.out)
  clear k4
  clear c0
  refine hK _ _ ?_
  clear hK K
  refine @BigFrame.wpList_want _ _ _ _ _ _ _ ?hw48043 ?_
  case hw48043 => kernel_rfl
  intro K hK
  go_simp
  refine hK _ _ ?_
  clear hK K
  have t0 := two_cell0 T4.out
  go_upto_region 5 with fail
  refine wp_region_lit ?_
  refine @BigFrame.wpList_want _ _ _ _ _ _ _ ?hw48045 ?_
  case hw48045 => kernel_rfl
  intro K hK
  go_simp
  refine hK _ _ ?_
  clear hK K
  refine @BigFrame.wpList_want _ _ _ _ _ _ _ ?hw48046 ?_
  case hw48046 => kernel_rfl
  intro K hK
  go_simp
  refine hK _ _ ?_
  clear hK K
  refine @BigFrame.wpList_want _ _ _ _ _ _ _ ?hw48044 ?_
  case hw48044 => kernel_rfl
  intro K hK
  go_simp
  go_at_call 46
  refine (HFB.out _ K4.out).mono ?_
  rintro e w5 ⟨rfl, k5⟩
  have K5 := Lib.hid (K4.out.next1 k5)
  have T5 := Lib.hid ((k5.block tb (lt_of_block T4.out) (Nat.ne_of_lt (lt_of_block T4.out))).trans T4.out)
  have R5 := Lib.hid ((k5.block rb (lt_of_block R4.out) (Nat.ne_of_lt (lt_of_block R4.out))).trans R4.out)
  have E5 := Lib.hid ((k5.block lb (lt_of_block E4.out) (Nat.ne_of_lt (lt_of_block E4.out))).trans E4.out)
  clear k5
  clear t0
  refine hK _ _ ?_
  clear hK K
  refine @BigFrame.wpList_want _ _ _ _ _ _ _ ?hw48047 ?_
  case hw48047 => kernel_rfl
  intro K hK
  go_simp
  refine hK _ _ ?_
  clear hK K
  go_upto_region 6 with fail
  refine wp_region_lit ?_
  refine @BigFrame.wpList_want _ _ _ _ _ _ _ ?hw48048 ?_
  case hw48048 => kernel_rfl
  intro K hK
  go_simp
  refine hK _ _ ?_
  clear hK K
  refine @BigFrame.wpList_want _ _ _ _ _ _ _ ?hw48049 ?_
  case hw48049 => kernel_rfl
  intro K hK
  go_simp
  refine hK _ _ ?_
  clear hK K
  go_upto_region 7 with fail
  refine wp_region_lit ?_
  refine @wpL_build0 _ _ _ _ _ _ _ ?hw48050 27 rfl _ (build_tree0 _) ?_
  case hw48050 => kernel_rfl
  simp only [Act.put, List.setIfInBounds_toArray, List.set_cons_zero, List.set_cons_succ]
  refine wpList_store_row rfl 27 _ _ rfl (rb) #[.slice none 0 0, .slice none 0 0] rfl rfl 27 #[.slice none 0 0, .slice none 0 0] R5.out treeInfo rfl (tree_all _ _ _ _ _ _) ?_
  simp only [Act.put]
  refine @BigFrame.wpList_want _ _ _ _ _ _ _ ?hw48051 ?_
  case hw48051 => kernel_rfl
  intro K hK
  go_simp
  refine hK _ _ ?_
  clear hK K
  refine @BigFrame.wpList_want _ _ _ _ _ _ _ ?hw48052 ?_
  case hw48052 => kernel_rfl
  intro K hK
  go_simp
  refine hK _ _ ?_
  clear hK K
  have RZ := setRow_heap w5 rb _ #[.slice none 0 0, .slice none 0 0] _ _ R5.out
  have KZ := Lib.hid (K5.out.grown (grown_setRow w5 rb #[.slice none 0 0, .slice none 0 0]) K5.out.size (fun k e => by cases e; exact Nat.le_of_not_lt HRB.out))
  generalize w5.setRow rb #[.slice none 0 0, .slice none 0 0] = wz at RZ KZ ⊢
  go_wp2
  refine bodyPost_ret (results_row3 rfl _ _ rb 27 _ (0, 0) _ rfl RZ Try.underlying27 rfl treeInfo) rfl ?_
  exact ⟨rfl, KZ.out⟩

set_option maxRecDepth 100000 in
set_option maxHeartbeats 6400000 in
theorem refadd_bad1 (lv pv : Value) (L : List Lf) (P : List Pr) (l : Lf) (w : World) (hL : Lvs w lv L) (hP : Pts w pv P) (hn : L.length ≤ 1000) (hlo : l.Ok) (hnn : (decide (1 ≤ l.name) && decide (l.name ≤ 64)) = false) :
    Calls Try.prog 18 #[.agg #[lv, pv], .agg l.cells.toArray] w fun e w' => e = .returned (.tuple #[.agg #[.slice none 0 0, .slice none 0 0], .int .i64 0, .int .i64 1]) ∧ Kept w.heap.size w.heap.size w w' := by
  obtain ⟨lad, lc, rfl⟩ := hL.shape
  obtain ⟨pad, pc, rfl⟩ := hP.shape
  obtain ⟨ln, hln⟩ : ∃ ln, ln = L.length := ⟨_, rfl⟩
  obtain ⟨pn, hpn⟩ : ∃ pn, pn = P.length := ⟨_, rfl⟩
  obtain ⟨nm, hnm⟩ : ∃ nm, nm = l.name := ⟨_, rfl⟩
  rw [← hln, ← hpn]
  rw [← hnm] at hnn
  have hln9 : (ln : Int) ≤ 1000 := by omega
  have HLN := Lib.hid hln
  have HPN := Lib.hid hpn
  have HOK := Lib.hid hlo
  have hlsz := Lf.size hlo
  have hlal := l.all
  have hD0 : l.cells.toArray[0]? = some (.int .i64 nm) := by rw [hnm]; exact l.at_name
  obtain ⟨D, hD⟩ : ∃ D, D = l.cells.toArray := ⟨_, rfl⟩
  rw [← hD] at hlsz hlal hD0 ⊢
  have HDE := Lib.hid hD
  have HSZ := Lib.hid hlsz
  have HAL := Lib.hid hlal
  clear hL hP hn hlo hln hpn hnm hlsz hlal hD
  have k1 := (Kept.refl w.heap.size w.heap.size w).alloc (Nat.le_refl _) (.cells #[.slice lad ln lc, .slice pad pn pc] 27)
  have t1 := heap_new w (.cells #[.slice lad ln lc, .slice pad pn pc] 27)
  have s1 : (w.alloc (.cells #[.slice lad ln lc, .slice pad pn pc] 27)).heap.size = w.heap.size + 1 := by simp
  go_enter Try.func18, Try.ntmps18
  go_upto_region 1 with fail
  generalize w.alloc (.cells #[.slice lad ln lc, .slice pad pn pc] 27) = wa at k1 t1 s1 ⊢
  have k2 := (Kept.refl wa.heap.size wa.heap.size wa).alloc (Nat.le_refl _) (.cells D 36)
  have e2 := heap_new wa (.cells D 36)
  have s2 : (wa.alloc (.cells D 36)).heap.size = wa.heap.size + 1 := by simp
  have t2 := (k2.block _ (lt_of_block t1) (Nat.ne_of_lt (lt_of_block t1))).trans t1
  generalize wa.alloc (.cells D 36) = wb at k2 e2 s2 t2 ⊢
  have k3 := (Kept.refl wb.heap.size wb.heap.size wb).alloc (Nat.le_refl _) (.cells #[.slice none 0 0, .slice none 0 0] 27)
  have r3 := heap_new wb (.cells #[.slice none 0 0, .slice none 0 0] 27)
  have s3 : (wb.alloc (.cells #[.slice none 0 0, .slice none 0 0] 27)).heap.size = wb.heap.size + 1 := by simp
  have t3 := (k3.block _ (lt_of_block t2) (Nat.ne_of_lt (lt_of_block t2))).trans t2
  have e3 := (k3.block _ (lt_of_block e2) (Nat.ne_of_lt (lt_of_block e2))).trans e2
  generalize wb.alloc (.cells #[.slice none 0 0, .slice none 0 0] 27) = w1 at k3 r3 s3 t3 e3 ⊢
  have K1 := Lib.hid ((k1.next1 k2).next1 k3)
  rw [s2, s1] at r3 s3
  rw [s1] at e3
  (try rw [s2])
  (try rw [s1])
  obtain ⟨tb, htb⟩ : ∃ tb, tb = w.heap.size := ⟨_, rfl⟩
  obtain ⟨lb, hlb⟩ : ∃ lb, lb = w.heap.size + 1 := ⟨_, rfl⟩
  obtain ⟨rb, hrb⟩ : ∃ rb, rb = w.heap.size + 1 + 1 := ⟨_, rfl⟩
  rw [← hrb] at r3
  (try rw [← hrb])
  rw [← hlb] at e3
  (try rw [← hlb])
  rw [← htb] at t3
  (try rw [← htb])
  have HTR := Lib.hid (show tb ≠ rb by omega)
  have HTL := Lib.hid (show tb ≠ lb by omega)
  have HTB := Lib.hid (show ¬ tb < w.heap.size by omega)
  have HRB := Lib.hid (show ¬ rb < w.heap.size by omega)
  have HWS := Lib.hid (show w.heap.size ≤ w1.heap.size by omega)
  have T1 := Lib.hid t3
  have E1 := Lib.hid e3
  have R1 := Lib.hid r3
  have c0 : w1.cell? ⟨lb, 0, none⟩ = some (.int .i64 nm) := by rw [cell_of_row w1 lb 0 _ _ _ E1.out]; exact hD0
  clear k1 t1 s1 k2 e2 s2 t2 k3 r3 s3 t3 e3 htb hlb hrb
  by_cases hn1 : nm < 1
  · have HX := Lib.hid hnn
    clear hnn
    refine wp_region_lit ?_
    refine @BigFrame.wpList_want _ _ _ _ _ _ _ ?hw48053 ?_
    case hw48053 => kernel_rfl
    intro K hK
    go_simp
    refine hK _ _ ?_
    clear hK K
    refine @BigFrame.wpList_want _ _ _ _ _ _ _ ?hw48054 ?_
    case hw48054 => kernel_rfl
    intro K hK
    go_simp
    refine hK _ _ ?_
    clear hK K
    refine @BigFrame.wpList_want _ _ _ _ _ _ _ ?hw48055 ?_
    case hw48055 => kernel_rfl
    intro K hK
    go_simp
    refine hK _ _ ?_
    clear hK K
    refine @BigFrame.wpList_want _ _ _ _ _ _ _ ?hw48056 ?_
    case hw48056 => kernel_rfl
    intro K hK
    go_simp
    refine hK _ _ ?_
    clear hK K
    refine @wpList_skip _ _ _ _ _ _ _ ?hw48057 ?_
    case hw48057 => kernel_rfl
    simp only [Act.put, List.setIfInBounds_toArray, List.set_cons_zero, List.set_cons_succ]
    refine @wpList_skip _ _ _ _ _ _ _ ?hw48058 ?_
    case hw48058 => kernel_rfl
    simp only [Act.put, List.setIfInBounds_toArray, List.set_cons_zero, List.set_cons_succ]
    refine @wpList_skip _ _ _ _ _ _ _ ?hw48059 ?_
    case hw48059 => kernel_rfl
    simp only [Act.put, List.setIfInBounds_toArray, List.set_cons_zero, List.set_cons_succ]
    refine @BigFrame.wpList_want _ _ _ _ _ _ _ ?hw48060 ?_
    case hw48060 => kernel_rfl
    intro K hK
    go_simp
    refine hK _ _ ?_
    clear hK K
    clear c0 hn1
    go_upto_region 2 with fail
    refine wp_region_lit ?_
    refine @wpL_build0 _ _ _ _ _ _ _ ?hw48061 27 rfl _ (build_tree0 _) ?_
    case hw48061 => kernel_rfl
    simp only [Act.put, List.setIfInBounds_toArray, List.set_cons_zero, List.set_cons_succ]
    refine wpList_store_row rfl 27 _ _ rfl (rb) #[.slice none 0 0, .slice none 0 0] rfl rfl 27 #[.slice none 0 0, .slice none 0 0] R1.out treeInfo rfl (tree_all _ _ _ _ _ _) ?_
    simp only [Act.put]
    refine @BigFrame.wpList_want _ _ _ _ _ _ _ ?hw48062 ?_
    case hw48062 => kernel_rfl
    intro K hK
    go_simp
    refine hK _ _ ?_
    clear hK K
    refine @BigFrame.wpList_want _ _ _ _ _ _ _ ?hw48063 ?_
    case hw48063 => kernel_rfl
    intro K hK
    go_simp
    refine hK _ _ ?_
    clear hK K
    have RZ := setRow_heap w1 rb _ #[.slice none 0 0, .slice none 0 0] _ _ R1.out
    have KZ := Lib.hid (K1.out.grown (grown_setRow w1 rb #[.slice none 0 0, .slice none 0 0]) K1.out.size (fun k e => by cases e; exact Nat.le_of_not_lt HRB.out))
    generalize w1.setRow rb #[.slice none 0 0, .slice none 0 0] = wz at RZ KZ ⊢
    go_wp2
    refine bodyPost_ret (results_row3 rfl _ _ rb 27 _ (0, 0) _ rfl RZ Try.underlying27 rfl treeInfo) rfl ?_
    exact ⟨rfl, KZ.out⟩
  · have hn2 : nm > 64 := by
      rw [Bool.and_eq_false_iff, decide_eq_false_iff_not, decide_eq_false_iff_not] at hnn
      omega
    clear hnn
    refine wp_region_lit ?_
    refine @BigFrame.wpList_want _ _ _ _ _ _ _ ?hw48064 ?_
    case hw48064 => kernel_rfl
    intro K hK
    go_simp
    refine hK _ _ ?_
    clear hK K
    refine @BigFrame.wpList_want _ _ _ _ _ _ _ ?hw48065 ?_
    case hw48065 => kernel_rfl
    intro K hK
    go_simp
    refine hK _ _ ?_
    clear hK K
    refine @BigFrame.wpList_want _ _ _ _ _ _ _ ?hw48066 ?_
    case hw48066 => kernel_rfl
    intro K hK
    go_simp
    refine hK _ _ ?_
    clear hK K
    refine @BigFrame.wpList_want _ _ _ _ _ _ _ ?hw48067 ?_
    case hw48067 => kernel_rfl
    intro K hK
    go_simp
    refine hK _ _ ?_
    clear hK K
    refine @BigFrame.wpList_want _ _ _ _ _ _ _ ?hw48068 ?_
    case hw48068 => kernel_rfl
    intro K hK
    go_simp
    refine hK _ _ ?_
    clear hK K
    refine @BigFrame.wpList_want _ _ _ _ _ _ _ ?hw48069 ?_
    case hw48069 => kernel_rfl
    intro K hK
    go_simp
    refine hK _ _ ?_
    clear hK K
    refine @BigFrame.wpList_want _ _ _ _ _ _ _ ?hw48070 ?_
    case hw48070 => kernel_rfl
    intro K hK
    go_simp
    refine hK _ _ ?_
    clear hK K
    refine @BigFrame.wpList_want _ _ _ _ _ _ _ ?hw48071 ?_
    case hw48071 => kernel_rfl
    intro K hK
    go_simp
    refine hK _ _ ?_
    clear hK K
    clear c0 hn1 hn2
    go_upto_region 2 with fail
    refine wp_region_lit ?_
    refine @wpL_build0 _ _ _ _ _ _ _ ?hw48072 27 rfl _ (build_tree0 _) ?_
    case hw48072 => kernel_rfl
    simp only [Act.put, List.setIfInBounds_toArray, List.set_cons_zero, List.set_cons_succ]
    refine wpList_store_row rfl 27 _ _ rfl (rb) #[.slice none 0 0, .slice none 0 0] rfl rfl 27 #[.slice none 0 0, .slice none 0 0] R1.out treeInfo rfl (tree_all _ _ _ _ _ _) ?_
    simp only [Act.put]
    refine @BigFrame.wpList_want _ _ _ _ _ _ _ ?hw48073 ?_
    case hw48073 => kernel_rfl
    intro K hK
    go_simp
    refine hK _ _ ?_
    clear hK K
    refine @BigFrame.wpList_want _ _ _ _ _ _ _ ?hw48074 ?_
    case hw48074 => kernel_rfl
    intro K hK
    go_simp
    refine hK _ _ ?_
    clear hK K
    have RZ := setRow_heap w1 rb _ #[.slice none 0 0, .slice none 0 0] _ _ R1.out
    have KZ := Lib.hid (K1.out.grown (grown_setRow w1 rb #[.slice none 0 0, .slice none 0 0]) K1.out.size (fun k e => by cases e; exact Nat.le_of_not_lt HRB.out))
    generalize w1.setRow rb #[.slice none 0 0, .slice none 0 0] = wz at RZ KZ ⊢
    go_wp2
    refine bodyPost_ret (results_row3 rfl _ _ rb 27 _ (0, 0) _ rfl RZ Try.underlying27 rfl treeInfo) rfl ?_
    exact ⟨rfl, KZ.out⟩

set_option maxRecDepth 100000 in
set_option maxHeartbeats 6400000 in
theorem refadd_bad8 (lv pv : Value) (L : List Lf) (P : List Pr) (l : Lf) (w : World) (hL : Lvs w lv L) (hP : Pts w pv P) (hn : L.length ≤ 1000) (hlo : l.Ok) (hnn : (decide (1 ≤ l.name) && decide (l.name ≤ 64)) = true) (hix : 0 ≤ Tt.index L l.name) :
    Calls Try.prog 18 #[.agg #[lv, pv], .agg l.cells.toArray] w fun e w' => e = .returned (.tuple #[.agg #[.slice none 0 0, .slice none 0 0], .int .i64 0, .int .i64 8]) ∧ Kept w.heap.size w.heap.size w w' := by
  have hnb : 1 ≤ l.name ∧ l.name ≤ 64 := by
    rw [Bool.and_eq_true, decide_eq_true_eq, decide_eq_true_eq] at hnn
    exact hnn
  have hpla : Tt.rplace L l.name = Tt.index L l.name := by
    unfold Tt.rplace
    rw [if_pos (by omega)]
  have HPL := Lib.hid (fun (x : World) (k : Kept w.heap.size w.heap.size w x) => refplace_calls lv pv L l.name x (hL.kept k) hn (by obtain ⟨pad, pc, rfl⟩ := hP.shape; exact ⟨_, _, _, rfl⟩))
  rw [hpla] at HPL
  obtain ⟨pl, hpe⟩ : ∃ pl, pl = Tt.index L l.name := ⟨_, rfl⟩
  rw [← hpe] at HPL hix
  clear hpla hpe
  obtain ⟨lad, lc, rfl⟩ := hL.shape
  obtain ⟨pad, pc, rfl⟩ := hP.shape
  obtain ⟨ln, hln⟩ : ∃ ln, ln = L.length := ⟨_, rfl⟩
  obtain ⟨pn, hpn⟩ : ∃ pn, pn = P.length := ⟨_, rfl⟩
  obtain ⟨nm, hnm⟩ : ∃ nm, nm = l.name := ⟨_, rfl⟩
  rw [← hln, ← hpn] at HPL ⊢
  rw [← hnm] at HPL hnb hnn
  have hln9 : (ln : Int) ≤ 1000 := by omega
  have HLN := Lib.hid hln
  have HPN := Lib.hid hpn
  have HOK := Lib.hid hlo
  have hlsz := Lf.size hlo
  have hlal := l.all
  have hD0 : l.cells.toArray[0]? = some (.int .i64 nm) := by rw [hnm]; exact l.at_name
  obtain ⟨D, hD⟩ : ∃ D, D = l.cells.toArray := ⟨_, rfl⟩
  rw [← hD] at hlsz hlal hD0 ⊢
  have HDE := Lib.hid hD
  have HSZ := Lib.hid hlsz
  have HAL := Lib.hid hlal
  clear hL hP hn hlo hln hpn hnm hlsz hlal hD
  have k1 := (Kept.refl w.heap.size w.heap.size w).alloc (Nat.le_refl _) (.cells #[.slice lad ln lc, .slice pad pn pc] 27)
  have t1 := heap_new w (.cells #[.slice lad ln lc, .slice pad pn pc] 27)
  have s1 : (w.alloc (.cells #[.slice lad ln lc, .slice pad pn pc] 27)).heap.size = w.heap.size + 1 := by simp
  go_enter Try.func18, Try.ntmps18
  go_upto_region 1 with fail
  generalize w.alloc (.cells #[.slice lad ln lc, .slice pad pn pc] 27) = wa at k1 t1 s1 ⊢
  have k2 := (Kept.refl wa.heap.size wa.heap.size wa).alloc (Nat.le_refl _) (.cells D 36)
  have e2 := heap_new wa (.cells D 36)
  have s2 : (wa.alloc (.cells D 36)).heap.size = wa.heap.size + 1 := by simp
  have t2 := (k2.block _ (lt_of_block t1) (Nat.ne_of_lt (lt_of_block t1))).trans t1
  generalize wa.alloc (.cells D 36) = wb at k2 e2 s2 t2 ⊢
  have k3 := (Kept.refl wb.heap.size wb.heap.size wb).alloc (Nat.le_refl _) (.cells #[.slice none 0 0, .slice none 0 0] 27)
  have r3 := heap_new wb (.cells #[.slice none 0 0, .slice none 0 0] 27)
  have s3 : (wb.alloc (.cells #[.slice none 0 0, .slice none 0 0] 27)).heap.size = wb.heap.size + 1 := by simp
  have t3 := (k3.block _ (lt_of_block t2) (Nat.ne_of_lt (lt_of_block t2))).trans t2
  have e3 := (k3.block _ (lt_of_block e2) (Nat.ne_of_lt (lt_of_block e2))).trans e2
  generalize wb.alloc (.cells #[.slice none 0 0, .slice none 0 0] 27) = w1 at k3 r3 s3 t3 e3 ⊢
  have K1 := Lib.hid ((k1.next1 k2).next1 k3)
  rw [s2, s1] at r3 s3
  rw [s1] at e3
  (try rw [s2])
  (try rw [s1])
  obtain ⟨tb, htb⟩ : ∃ tb, tb = w.heap.size := ⟨_, rfl⟩
  obtain ⟨lb, hlb⟩ : ∃ lb, lb = w.heap.size + 1 := ⟨_, rfl⟩
  obtain ⟨rb, hrb⟩ : ∃ rb, rb = w.heap.size + 1 + 1 := ⟨_, rfl⟩
  rw [← hrb] at r3
  (try rw [← hrb])
  rw [← hlb] at e3
  (try rw [← hlb])
  rw [← htb] at t3
  (try rw [← htb])
  have HTR := Lib.hid (show tb ≠ rb by omega)
  have HTL := Lib.hid (show tb ≠ lb by omega)
  have HTB := Lib.hid (show ¬ tb < w.heap.size by omega)
  have HRB := Lib.hid (show ¬ rb < w.heap.size by omega)
  have HWS := Lib.hid (show w.heap.size ≤ w1.heap.size by omega)
  have T1 := Lib.hid t3
  have E1 := Lib.hid e3
  have R1 := Lib.hid r3
  have c0 : w1.cell? ⟨lb, 0, none⟩ = some (.int .i64 nm) := by rw [cell_of_row w1 lb 0 _ _ _ E1.out]; exact hD0
  clear k1 t1 s1 k2 e2 s2 t2 k3 r3 s3 t3 e3 htb hlb hrb
  have hn1 : ¬ nm < 1 := by omega
  have hn2 : ¬ nm > 64 := by omega
  clear hnb hnn
  refine wp_region_lit ?_
  refine @BigFrame.wpList_want _ _ _ _ _ _ _ ?hw48075 ?_
  case hw48075 => kernel_rfl
  intro K hK
  go_simp
  refine hK _ _ ?_
  clear hK K
  refine @BigFrame.wpList_want _ _ _ _ _ _ _ ?hw48076 ?_
  case hw48076 => kernel_rfl
  intro K hK
  go_simp
  refine hK _ _ ?_
  clear hK K
  refine @BigFrame.wpList_want _ _ _ _ _ _ _ ?hw48077 ?_
  case hw48077 => kernel_rfl
  intro K hK
  go_simp
  refine hK _ _ ?_
  clear hK K
  refine @BigFrame.wpList_want _ _ _ _ _ _ _ ?hw48078 ?_
  case hw48078 => kernel_rfl
  intro K hK
  go_simp
  refine hK _ _ ?_
  clear hK K
  refine @BigFrame.wpList_want _ _ _ _ _ _ _ ?hw48079 ?_
  case hw48079 => kernel_rfl
  intro K hK
  go_simp
  refine hK _ _ ?_
  clear hK K
  refine @BigFrame.wpList_want _ _ _ _ _ _ _ ?hw48080 ?_
  case hw48080 => kernel_rfl
  intro K hK
  go_simp
  refine hK _ _ ?_
  clear hK K
  refine @BigFrame.wpList_want _ _ _ _ _ _ _ ?hw48081 ?_
  case hw48081 => kernel_rfl
  intro K hK
  go_simp
  refine hK _ _ ?_
  clear hK K
  refine @BigFrame.wpList_want _ _ _ _ _ _ _ ?hw48082 ?_
  case hw48082 => kernel_rfl
  intro K hK
  go_simp
  refine hK _ _ ?_
  clear hK K
  clear hn1 hn2
  have hpge : pl ≥ 0 := hix
  have hpge2 : (0 : Int) ≤ pl := hix
  clear hix
  go_upto_region 3 with fail
  refine wp_region_lit ?_
  refine @wpList_load_known _ _ _ _ _ _ _ ?hw48084 27 (.tmp 2) rfl (tb) (0) rfl (.agg #[.slice lad ln lc, .slice pad pn pc]) (run_loadVar_row w1 tb 27 27 _ (0, 0) _ T1.out Try.underlying27 rfl treeInfo) ?_
  case hw48084 => kernel_rfl
  simp only [Act.put, List.setIfInBounds_toArray, List.set_cons_zero, List.set_cons_succ]
  refine @BigFrame.wpList_want _ _ _ _ _ _ _ ?hw48085 ?_
  case hw48085 => kernel_rfl
  intro K hK
  go_simp
  refine hK _ _ ?_
  clear hK K
  refine @BigFrame.wpList_want _ _ _ _ _ _ _ ?hw48086 ?_
  case hw48086 => kernel_rfl
  intro K hK
  go_simp
  refine hK _ _ ?_
  clear hK K
  refine @BigFrame.wpList_want _ _ _ _ _ _ _ ?hw48083 ?_
  case hw48083 => kernel_rfl
  intro K hK
  go_simp
  go_at_call 25
  refine (HPL.out _ K1.out).mono ?_
  rintro e w2 ⟨rfl, k2⟩
  have K2 := Lib.hid (K1.out.next1 k2)
  have T2 := Lib.hid ((k2.block tb (lt_of_block T1.out) (Nat.ne_of_lt (lt_of_block T1.out))).trans T1.out)
  have R2 := Lib.hid ((k2.block rb (lt_of_block R1.out) (Nat.ne_of_lt (lt_of_block R1.out))).trans R1.out)
  have E2 := Lib.hid ((k2.block lb (lt_of_block E1.out) (Nat.ne_of_lt (lt_of_block E1.out))).trans E1.out)
  clear k2
  clear c0
  refine hK _ _ ?_
  clear hK K
  refine @BigFrame.wpList_want _ _ _ _ _ _ _ ?hw48087 ?_
  case hw48087 => kernel_rfl
  intro K hK
  go_simp
  refine hK _ _ ?_
  clear hK K
  go_upto_region 4 with fail
  refine wp_region_lit ?_
  refine @wpL_build0 _ _ _ _ _ _ _ ?hw48088 27 rfl _ (build_tree0 _) ?_
  case hw48088 => kernel_rfl
  simp only [Act.put, List.setIfInBounds_toArray, List.set_cons_zero, List.set_cons_succ]
  refine wpList_store_row rfl 27 _ _ rfl (rb) #[.slice none 0 0, .slice none 0 0] rfl rfl 27 #[.slice none 0 0, .slice none 0 0] R2.out treeInfo rfl (tree_all _ _ _ _ _ _) ?_
  simp only [Act.put]
  refine @BigFrame.wpList_want _ _ _ _ _ _ _ ?hw48089 ?_
  case hw48089 => kernel_rfl
  intro K hK
  go_simp
  refine hK _ _ ?_
  clear hK K
  refine @BigFrame.wpList_want _ _ _ _ _ _ _ ?hw48090 ?_
  case hw48090 => kernel_rfl
  intro K hK
  go_simp
  refine hK _ _ ?_
  clear hK K
  have RZ := setRow_heap w2 rb _ #[.slice none 0 0, .slice none 0 0] _ _ R2.out
  have KZ := Lib.hid (K2.out.grown (grown_setRow w2 rb #[.slice none 0 0, .slice none 0 0]) K2.out.size (fun k e => by cases e; exact Nat.le_of_not_lt HRB.out))
  generalize w2.setRow rb #[.slice none 0 0, .slice none 0 0] = wz at RZ KZ ⊢
  go_wp2
  refine bodyPost_ret (results_row3 rfl _ _ rb 27 _ (0, 0) _ rfl RZ Try.underlying27 rfl treeInfo) rfl ?_
  exact ⟨rfl, KZ.out⟩

set_option maxRecDepth 100000 in
set_option maxHeartbeats 6400000 in
theorem refadd_bad9 (lv pv : Value) (L : List Lf) (P : List Pr) (l : Lf) (w : World) (hL : Lvs w lv L) (hP : Pts w pv P) (hn : L.length ≤ 1000) (hp : P.length ≤ 1000) (hpl : ∀ p ∈ P, p.loose.length ≤ 1000) (hlo : l.Ok) (hnn : (decide (1 ≤ l.name) && decide (l.name ≤ 64)) = true) (hix : Tt.index L l.name = -1) (hfb : Tt.firstBlank L = 64) :
    Calls Try.prog 18 #[.agg #[lv, pv], .agg l.cells.toArray] w fun e w' => e = .returned (.tuple #[.agg #[.slice none 0 0, .slice none 0 0], .int .i64 0, .int .i64 9]) ∧ Kept w.heap.size w.heap.size w w' := by
  have hnb : 1 ≤ l.name ∧ l.name ≤ 64 := by
    rw [Bool.and_eq_true, decide_eq_true_eq, decide_eq_true_eq] at hnn
    exact hnn
  have hpla : Tt.rplace L l.name = Tt.index L l.name := by
    unfold Tt.rplace
    rw [if_pos (by omega)]
  have HPL := Lib.hid (fun (x : World) (k : Kept w.heap.size w.heap.size w x) => refplace_calls lv pv L l.name x (hL.kept k) hn (by obtain ⟨pad, pc, rfl⟩ := hP.shape; exact ⟨_, _, _, rfl⟩))
  rw [hpla] at HPL
  rw [hix] at HPL
  have HCP := Lib.hid (fun (u : World) (kk : Kept w.heap.size w.heap.size w u) => refcopy_calls lv pv L P u (hL.kept kk) (hP.kept kk) hn hp hpl)
  have hfl := Tt.firstBlank_le L
  have HF1 := Lib.hid (Tt.firstBlank_lt L)
  have HF2 := Lib.hid (Tt.firstBlank_is L)
  clear hpla hix
  obtain ⟨fb, hfbe⟩ : ∃ fb, fb = Tt.firstBlank L := ⟨_, rfl⟩
  rw [← hfbe] at hfl HF1 HF2
  have H64 := Lib.hid (show fb = 64 by rw [hfbe]; exact hfb)
  clear hfb hfbe
  obtain ⟨lad, lc, rfl⟩ := hL.shape
  obtain ⟨pad, pc, rfl⟩ := hP.shape
  obtain ⟨ln, hln⟩ : ∃ ln, ln = L.length := ⟨_, rfl⟩
  obtain ⟨pn, hpn⟩ : ∃ pn, pn = P.length := ⟨_, rfl⟩
  obtain ⟨nm, hnm⟩ : ∃ nm, nm = l.name := ⟨_, rfl⟩
  rw [← hln, ← hpn] at HPL HCP ⊢
  rw [← hln] at hfl
  rw [← hnm] at HPL hnb hnn
  have hln9 : (ln : Int) ≤ 1000 := by omega
  have HLN := Lib.hid hln
  have HPN := Lib.hid hpn
  have HOK := Lib.hid hlo
  have hlsz := Lf.size hlo
  have hlal := l.all
  have hD0 : l.cells.toArray[0]? = some (.int .i64 nm) := by rw [hnm]; exact l.at_name
  obtain ⟨D, hD⟩ : ∃ D, D = l.cells.toArray := ⟨_, rfl⟩
  rw [← hD] at hlsz hlal hD0 ⊢
  have HDE := Lib.hid hD
  have HSZ := Lib.hid hlsz
  have HAL := Lib.hid hlal
  clear hL hP hn hp hpl hlo hln hpn hnm hlsz hlal hD
  have k1 := (Kept.refl w.heap.size w.heap.size w).alloc (Nat.le_refl _) (.cells #[.slice lad ln lc, .slice pad pn pc] 27)
  have t1 := heap_new w (.cells #[.slice lad ln lc, .slice pad pn pc] 27)
  have s1 : (w.alloc (.cells #[.slice lad ln lc, .slice pad pn pc] 27)).heap.size = w.heap.size + 1 := by simp
  go_enter Try.func18, Try.ntmps18
  go_upto_region 1 with fail
  generalize w.alloc (.cells #[.slice lad ln lc, .slice pad pn pc] 27) = wa at k1 t1 s1 ⊢
  have k2 := (Kept.refl wa.heap.size wa.heap.size wa).alloc (Nat.le_refl _) (.cells D 36)
  have e2 := heap_new wa (.cells D 36)
  have s2 : (wa.alloc (.cells D 36)).heap.size = wa.heap.size + 1 := by simp
  have t2 := (k2.block _ (lt_of_block t1) (Nat.ne_of_lt (lt_of_block t1))).trans t1
  generalize wa.alloc (.cells D 36) = wb at k2 e2 s2 t2 ⊢
  have k3 := (Kept.refl wb.heap.size wb.heap.size wb).alloc (Nat.le_refl _) (.cells #[.slice none 0 0, .slice none 0 0] 27)
  have r3 := heap_new wb (.cells #[.slice none 0 0, .slice none 0 0] 27)
  have s3 : (wb.alloc (.cells #[.slice none 0 0, .slice none 0 0] 27)).heap.size = wb.heap.size + 1 := by simp
  have t3 := (k3.block _ (lt_of_block t2) (Nat.ne_of_lt (lt_of_block t2))).trans t2
  have e3 := (k3.block _ (lt_of_block e2) (Nat.ne_of_lt (lt_of_block e2))).trans e2
  generalize wb.alloc (.cells #[.slice none 0 0, .slice none 0 0] 27) = w1 at k3 r3 s3 t3 e3 ⊢
  have K1 := Lib.hid ((k1.next1 k2).next1 k3)
  rw [s2, s1] at r3 s3
  rw [s1] at e3
  (try rw [s2])
  (try rw [s1])
  obtain ⟨tb, htb⟩ : ∃ tb, tb = w.heap.size := ⟨_, rfl⟩
  obtain ⟨lb, hlb⟩ : ∃ lb, lb = w.heap.size + 1 := ⟨_, rfl⟩
  obtain ⟨rb, hrb⟩ : ∃ rb, rb = w.heap.size + 1 + 1 := ⟨_, rfl⟩
  rw [← hrb] at r3
  (try rw [← hrb])
  rw [← hlb] at e3
  (try rw [← hlb])
  rw [← htb] at t3
  (try rw [← htb])
  have HTR := Lib.hid (show tb ≠ rb by omega)
  have HTL := Lib.hid (show tb ≠ lb by omega)
  have HTB := Lib.hid (show ¬ tb < w.heap.size by omega)
  have HRB := Lib.hid (show ¬ rb < w.heap.size by omega)
  have HWS := Lib.hid (show w.heap.size ≤ w1.heap.size by omega)
  have T1 := Lib.hid t3
  have E1 := Lib.hid e3
  have R1 := Lib.hid r3
  have c0 : w1.cell? ⟨lb, 0, none⟩ = some (.int .i64 nm) := by rw [cell_of_row w1 lb 0 _ _ _ E1.out]; exact hD0
  clear k1 t1 s1 k2 e2 s2 t2 k3 r3 s3 t3 e3 htb hlb hrb
  have hn1 : ¬ nm < 1 := by omega
  have hn2 : ¬ nm > 64 := by omega
  clear hnb hnn
  have HFL := Lib.hid hfl
  clear hfl
  refine wp_region_lit ?_
  refine @BigFrame.wpList_want _ _ _ _ _ _ _ ?hw48124 ?_
  case hw48124 => kernel_rfl
  intro K hK
  go_simp
  refine hK _ _ ?_
  clear hK K
  refine @BigFrame.wpList_want _ _ _ _ _ _ _ ?hw48125 ?_
  case hw48125 => kernel_rfl
  intro K hK
  go_simp
  refine hK _ _ ?_
  clear hK K
  refine @BigFrame.wpList_want _ _ _ _ _ _ _ ?hw48126 ?_
  case hw48126 => kernel_rfl
  intro K hK
  go_simp
  refine hK _ _ ?_
  clear hK K
  refine @BigFrame.wpList_want _ _ _ _ _ _ _ ?hw48127 ?_
  case hw48127 => kernel_rfl
  intro K hK
  go_simp
  refine hK _ _ ?_
  clear hK K
  refine @BigFrame.wpList_want _ _ _ _ _ _ _ ?hw48128 ?_
  case hw48128 => kernel_rfl
  intro K hK
  go_simp
  refine hK _ _ ?_
  clear hK K
  refine @BigFrame.wpList_want _ _ _ _ _ _ _ ?hw48129 ?_
  case hw48129 => kernel_rfl
  intro K hK
  go_simp
  refine hK _ _ ?_
  clear hK K
  refine @BigFrame.wpList_want _ _ _ _ _ _ _ ?hw48130 ?_
  case hw48130 => kernel_rfl
  intro K hK
  go_simp
  refine hK _ _ ?_
  clear hK K
  refine @BigFrame.wpList_want _ _ _ _ _ _ _ ?hw48131 ?_
  case hw48131 => kernel_rfl
  intro K hK
  go_simp
  refine hK _ _ ?_
  clear hK K
  clear hn1 hn2
  go_upto_region 3 with fail
  refine wp_region_lit ?_
  refine @wpList_load_known _ _ _ _ _ _ _ ?hw48133 27 (.tmp 2) rfl (tb) (0) rfl (.agg #[.slice lad ln lc, .slice pad pn pc]) (run_loadVar_row w1 tb 27 27 _ (0, 0) _ T1.out Try.underlying27 rfl treeInfo) ?_
  case hw48133 => kernel_rfl
  simp only [Act.put, List.setIfInBounds_toArray, List.set_cons_zero, List.set_cons_succ]
  refine @BigFrame.wpList_want _ _ _ _ _ _ _ ?hw48134 ?_
  case hw48134 => kernel_rfl
  intro K hK
  go_simp
  refine hK _ _ ?_
  clear hK K
  refine @BigFrame.wpList_want _ _ _ _ _ _ _ ?hw48135 ?_
  case hw48135 => kernel_rfl
  intro K hK
  go_simp
  refine hK _ _ ?_
  clear hK K
  refine @BigFrame.wpList_want _ _ _ _ _ _ _ ?hw48132 ?_
  case hw48132 => kernel_rfl
  intro K hK
  go_simp
  go_at_call 25
  refine (HPL.out _ K1.out).mono ?_
  rintro e w2 ⟨rfl, k2⟩
  have K2 := Lib.hid (K1.out.next1 k2)
  have T2 := Lib.hid ((k2.block tb (lt_of_block T1.out) (Nat.ne_of_lt (lt_of_block T1.out))).trans T1.out)
  have R2 := Lib.hid ((k2.block rb (lt_of_block R1.out) (Nat.ne_of_lt (lt_of_block R1.out))).trans R1.out)
  have E2 := Lib.hid ((k2.block lb (lt_of_block E1.out) (Nat.ne_of_lt (lt_of_block E1.out))).trans E1.out)
  clear k2
  clear c0
  refine hK _ _ ?_
  clear hK K
  refine @BigFrame.wpList_want _ _ _ _ _ _ _ ?hw48136 ?_
  case hw48136 => kernel_rfl
  intro K hK
  go_simp
  refine hK _ _ ?_
  clear hK K
  go_upto_region 5 with fail
  refine wp_region_lit ?_
  refine @wpList_load_known _ _ _ _ _ _ _ ?hw48138 27 (.tmp 2) rfl (tb) (0) rfl (.agg #[.slice lad ln lc, .slice pad pn pc]) (run_loadVar_row w2 tb 27 27 _ (0, 0) _ T2.out Try.underlying27 rfl treeInfo) ?_
  case hw48138 => kernel_rfl
  simp only [Act.put, List.setIfInBounds_toArray, List.set_cons_zero, List.set_cons_succ]
  refine @BigFrame.wpList_want _ _ _ _ _ _ _ ?hw48137 ?_
  case hw48137 => kernel_rfl
  intro K hK
  go_simp
  go_at_call 51
  refine (HCP.out _ K2.out).mono ?_
  rintro e w6 ⟨lv6, pv6, rfl, k6, SL6, m6⟩
  obtain ⟨lad6, lc6, rfl⟩ := m6.lvs.shape
  obtain ⟨pad6, pc6, rfl⟩ := m6.pts.shape
  rw [← HLN.out, ← HPN.out] at m6 ⊢
  have K6 := Lib.hid (K2.out.next1 k6)
  have T6 := Lib.hid ((k6.block tb (lt_of_block T2.out) (Nat.ne_of_lt (lt_of_block T2.out))).trans T2.out)
  have R6 := Lib.hid ((k6.block rb (lt_of_block R2.out) (Nat.ne_of_lt (lt_of_block R2.out))).trans R2.out)
  have E6 := Lib.hid ((k6.block lb (lt_of_block E2.out) (Nat.ne_of_lt (lt_of_block E2.out))).trans E2.out)
  clear k6
  refine hK _ _ ?_
  clear hK K
  refine wpList_store_row rfl 27 _ _ rfl (tb) #[.slice lad6 ln lc6, .slice pad6 pn pc6] rfl rfl 27 #[.slice lad ln lc, .slice pad pn pc] T6.out treeInfo rfl (tree_all _ _ _ _ _ _) ?_
  simp only [Act.put]
  obtain ⟨sz, hsz⟩ : ∃ sz, sz = w2.heap.size := ⟨_, rfl⟩
  have HTZ := Lib.hid (show tb < sz by rw [hsz]; exact lt_of_block T2.out)
  have HRZ := Lib.hid (show rb < sz by rw [hsz]; exact lt_of_block R2.out)
  have HLZ := Lib.hid (show lb < sz by rw [hsz]; exact lt_of_block E2.out)
  have HWZ := Lib.hid (show w.heap.size ≤ sz by rw [hsz]; exact K2.out.size)
  rw [← hsz] at m6
  have g7 := grown_setRow w6 tb #[.slice lad6 ln lc6, .slice pad6 pn pc6]
  have M7 := Lib.hid (m6.aside (b := tb) HTZ.out g7)
  have F7 := Lib.hid ((K6.out.fr (B := fun k => k < w.heap.size)).trans (grown_fr (B := fun k => k < w.heap.size) g7 (fun k e b => by cases e; exact HTB.out b)))
  have R7 := Lib.hid ((g7.block rb (lt_of_block R6.out) (fun e => HTR.out (Option.some.inj e).symm)).trans R6.out)
  have E7 := Lib.hid ((g7.block lb (lt_of_block E6.out) (fun e => HTL.out (Option.some.inj e).symm)).trans E6.out)
  have T7 : Hid ((w6.setRow tb #[.slice lad6 ln lc6, .slice pad6 pn pc6]).heap[tb]? = some (.cells #[.slice lad6 ln lc6, .slice pad6 pn pc6] 27 (0, 0))) := Lib.hid (setRow_heap w6 tb _ #[.slice lad6 ln lc6, .slice pad6 pn pc6] _ _ T6.out)
  generalize w6.setRow tb #[.slice lad6 ln lc6, .slice pad6 pn pc6] = w7 at M7 F7 R7 E7 T7 ⊢
  clear m6 hsz g7 K6 T6 R6 E6
  go_wp2
  go_loopw [7] (fun s7 wr => ∃ i : Nat, s7 = .int .i64 (i : Int) ∧ Hid (i ≤ fb) ∧ Hid (Mine (fun k => k < sz) wr (.slice lad6 ln lc6) (.slice pad6 pn pc6) L P SL6) ∧ Hid (Frm (fun k => k < w.heap.size) w wr) ∧ Hid (wr.heap[tb]? = some (.cells #[.slice lad6 ln lc6, .slice pad6 pn pc6] 27 (0, 0))) ∧ Hid (wr.heap[rb]? = some (.cells #[.slice none 0 0, .slice none 0 0] 27 (0, 0))) ∧ Hid (wr.heap[lb]? = some (.cells D 36 (0, 0)))) (fun s7 _ => fb - (RowKit.intOf s7).toNat)
  case atStart => exact ⟨0, rfl, Lib.hid (Nat.zero_le _), M7, F7, T7, R7, E7⟩
  case round =>
    clear M7 F7 T7 R7 E7
    obtain ⟨i, rfl, hi, HM, HF, HT, HR, HE⟩ := hrel
    have t0 := two_cell0 HT.out
    by_cases hlt : i < fb
    · obtain ⟨lx, hlx, hnx⟩ := HF1.out i hlt
      have hiL : i < L.length := (List.getElem?_eq_some_iff.1 hlx).1
      have hlti : (i : Int) < (ln : Int) := by have := HFL.out; omega
      have hi0 : ¬ (i : Int) < 0 := by omega
      obtain ⟨g1, had1, hg1, hokx, hr1⟩ := HM.out.leafRow i hiL
      subst had1
      rw [(List.getElem?_eq_some_iff.1 hlx).2] at hr1
      have c0 : wr.cell? ⟨g1, i * 97, none⟩ = some (.int .i64 lx.name) := by
        have h8 := hr1 0 (.int .i64 lx.name) (by simp [Lf.cells])
        simpa using h8
      obtain ⟨nx, hnx2⟩ : ∃ nx, nx = lx.name := ⟨_, rfl⟩
      rw [← hnx2] at c0 hnx
      have HNB := Lib.hid (show (nx != 0) = true by rw [bne_iff_ne]; exact hnx)
      have HLT := Lib.hid hlt
      clear hlt hi hokx hlx hnx hiL hg1 hr1 hnx2
      go_upto_region 7 with fail
      refine wp_region_lit ?_
      refine @BigFrame.wpList_want _ _ _ _ _ _ _ ?hw48139 ?_
      case hw48139 => kernel_rfl
      intro K hK
      go_simp
      refine hK _ _ ?_
      clear hK K
      refine @BigFrame.wpList_want _ _ _ _ _ _ _ ?hw48140 ?_
      case hw48140 => kernel_rfl
      intro K hK
      go_simp
      refine hK _ _ ?_
      clear hK K
      refine @BigFrame.wpList_want _ _ _ _ _ _ _ ?hw48141 ?_
      case hw48141 => kernel_rfl
      intro K hK
      go_simp
      refine hK _ _ ?_
      clear hK K
      refine @BigFrame.wpList_want _ _ _ _ _ _ _ ?hw48142 ?_
      case hw48142 => kernel_rfl
      intro K hK
      go_simp
      refine hK _ _ ?_
      clear hK K
      refine @BigFrame.wpList_want _ _ _ _ _ _ _ ?hw48143 ?_
      case hw48143 => kernel_rfl
      intro K hK
      go_simp
      refine hK _ _ ?_
      clear hK K
      refine @BigFrame.wpList_want _ _ _ _ _ _ _ ?hw48144 ?_
      case hw48144 => kernel_rfl
      intro K hK
      go_simp
      refine hK _ _ ?_
      clear hK K
      refine @BigFrame.wpList_want _ _ _ _ _ _ _ ?hw48145 ?_
      case hw48145 => kernel_rfl
      intro K hK
      go_simp
      refine hK _ _ ?_
      clear hK K
      refine @BigFrame.wpList_want _ _ _ _ _ _ _ ?hw48146 ?_
      case hw48146 => kernel_rfl
      intro K hK
      go_simp
      refine hK _ _ ?_
      clear hK K
      refine @BigFrame.wpList_want _ _ _ _ _ _ _ ?hw48147 ?_
      case hw48147 => kernel_rfl
      intro K hK
      go_simp
      refine hK _ _ ?_
      clear hK K
      refine @BigFrame.wpList_want _ _ _ _ _ _ _ ?hw48148 ?_
      case hw48148 => kernel_rfl
      intro K hK
      go_simp
      refine hK _ _ ?_
      clear hK K
      refine @BigFrame.wpList_want _ _ _ _ _ _ _ ?hw48149 ?_
      case hw48149 => kernel_rfl
      intro K hK
      go_simp
      refine hK _ _ ?_
      clear hK K
      refine @BigFrame.wpList_want _ _ _ _ _ _ _ ?hw48150 ?_
      case hw48150 => kernel_rfl
      intro K hK
      go_simp
      refine hK _ _ ?_
      clear hK K
      refine @BigFrame.wpList_want _ _ _ _ _ _ _ ?hw48151 ?_
      case hw48151 => kernel_rfl
      intro K hK
      go_simp
      rw [HNB.out]
      refine hK _ _ ?_
      clear hK K
      refine @BigFrame.wpList_want _ _ _ _ _ _ _ ?hw48152 ?_
      case hw48152 => kernel_rfl
      intro K hK
      go_simp
      refine hK _ _ ?_
      clear hK K
      clear c0 t0
      go_wp2
      go_roundw
      case rel => exact ⟨i + 1, by simp, Lib.hid HLT.out, HM, HF, HT, HR, HE⟩
      case measure => have := HLT.out; simp [RowKit.intOf]; omega
    · have HIE := Lib.hid (show i = fb by have := hi.out; omega)
      clear hlt hi
      obtain rfl := HIE.out
      by_cases hf : i < ln
      · obtain ⟨lx, hlx, hnx⟩ := HF2.out (by rw [← HLN.out]; exact hf)
        have hiL : i < L.length := (List.getElem?_eq_some_iff.1 hlx).1
        have hlti : (i : Int) < (ln : Int) := by omega
        have hi0 : ¬ (i : Int) < 0 := by omega
        obtain ⟨g1, had1, hg1, hokx, hr1⟩ := HM.out.leafRow i hiL
        subst had1
        rw [(List.getElem?_eq_some_iff.1 hlx).2] at hr1
        have c0 : wr.cell? ⟨g1, i * 97, none⟩ = some (.int .i64 lx.name) := by
          have h8 := hr1 0 (.int .i64 lx.name) (by simp [Lf.cells])
          simpa using h8
        obtain ⟨nx, hnx2⟩ : ∃ nx, nx = lx.name := ⟨_, rfl⟩
        rw [← hnx2] at c0 hnx
        have HNB := Lib.hid (show (nx != 0) = false by rw [hnx]; rfl)
        have HHF := Lib.hid hf
        clear hf hokx hlx hnx hiL hg1 hr1 hnx2
        go_upto_region 7 with fail
        refine wp_region_lit ?_
        refine @BigFrame.wpList_want _ _ _ _ _ _ _ ?hw48096 ?_
        case hw48096 => kernel_rfl
        intro K hK
        go_simp
        refine hK _ _ ?_
        clear hK K
        refine @BigFrame.wpList_want _ _ _ _ _ _ _ ?hw48097 ?_
        case hw48097 => kernel_rfl
        intro K hK
        go_simp
        refine hK _ _ ?_
        clear hK K
        refine @BigFrame.wpList_want _ _ _ _ _ _ _ ?hw48098 ?_
        case hw48098 => kernel_rfl
        intro K hK
        go_simp
        refine hK _ _ ?_
        clear hK K
        refine @BigFrame.wpList_want _ _ _ _ _ _ _ ?hw48099 ?_
        case hw48099 => kernel_rfl
        intro K hK
        go_simp
        refine hK _ _ ?_
        clear hK K
        refine @BigFrame.wpList_want _ _ _ _ _ _ _ ?hw48100 ?_
        case hw48100 => kernel_rfl
        intro K hK
        go_simp
        refine hK _ _ ?_
        clear hK K
        refine @BigFrame.wpList_want _ _ _ _ _ _ _ ?hw48101 ?_
        case hw48101 => kernel_rfl
        intro K hK
        go_simp
        refine hK _ _ ?_
        clear hK K
        refine @BigFrame.wpList_want _ _ _ _ _ _ _ ?hw48102 ?_
        case hw48102 => kernel_rfl
        intro K hK
        go_simp
        refine hK _ _ ?_
        clear hK K
        refine @BigFrame.wpList_want _ _ _ _ _ _ _ ?hw48103 ?_
        case hw48103 => kernel_rfl
        intro K hK
        go_simp
        refine hK _ _ ?_
        clear hK K
        refine @BigFrame.wpList_want _ _ _ _ _ _ _ ?hw48104 ?_
        case hw48104 => kernel_rfl
        intro K hK
        go_simp
        refine hK _ _ ?_
        clear hK K
        refine @BigFrame.wpList_want _ _ _ _ _ _ _ ?hw48105 ?_
        case hw48105 => kernel_rfl
        intro K hK
        go_simp
        refine hK _ _ ?_
        clear hK K
        refine @BigFrame.wpList_want _ _ _ _ _ _ _ ?hw48106 ?_
        case hw48106 => kernel_rfl
        intro K hK
        go_simp
        refine hK _ _ ?_
        clear hK K
        refine @BigFrame.wpList_want _ _ _ _ _ _ _ ?hw48107 ?_
        case hw48107 => kernel_rfl
        intro K hK
        go_simp
        refine hK _ _ ?_
        clear hK K
        refine @BigFrame.wpList_want _ _ _ _ _ _ _ ?hw48108 ?_
        case hw48108 => kernel_rfl
        intro K hK
        go_simp
        rw [HNB.out]
        refine hK _ _ ?_
        clear hK K
        refine @BigFrame.wpList_want _ _ _ _ _ _ _ ?hw48109 ?_
        case hw48109 => kernel_rfl
        intro K hK
        go_simp
        refine hK _ _ ?_
        clear hK K
        clear c0 hi0 hlti
        have hf64 : ((i : Int) == 64) = true := by rw [beq_iff_eq]; have := H64.out; omega
        go_upto_region 9 with fail
        refine wp_region_lit ?_
        refine @BigFrame.wpList_want _ _ _ _ _ _ _ ?hw48091 ?_
        case hw48091 => kernel_rfl
        intro K hK
        go_simp
        refine hK _ _ ?_
        clear hK K
        refine @BigFrame.wpList_want _ _ _ _ _ _ _ ?hw48092 ?_
        case hw48092 => kernel_rfl
        intro K hK
        go_simp
        refine hK _ _ ?_
        clear hK K
        clear t0
        go_upto_region 10 with fail
        refine wp_region_lit ?_
        refine @wpL_build0 _ _ _ _ _ _ _ ?hw48093 27 rfl _ (build_tree0 _) ?_
        case hw48093 => kernel_rfl
        simp only [Act.put, List.setIfInBounds_toArray, List.set_cons_zero, List.set_cons_succ]
        refine wpList_store_row rfl 27 _ _ rfl (rb) #[.slice none 0 0, .slice none 0 0] rfl rfl 27 #[.slice none 0 0, .slice none 0 0] HR.out treeInfo rfl (tree_all _ _ _ _ _ _) ?_
        simp only [Act.put]
        refine @BigFrame.wpList_want _ _ _ _ _ _ _ ?hw48094 ?_
        case hw48094 => kernel_rfl
        intro K hK
        go_simp
        refine hK _ _ ?_
        clear hK K
        refine @BigFrame.wpList_want _ _ _ _ _ _ _ ?hw48095 ?_
        case hw48095 => kernel_rfl
        intro K hK
        go_simp
        refine hK _ _ ?_
        clear hK K
        have RZ := setRow_heap wr rb _ #[.slice none 0 0, .slice none 0 0] _ _ HR.out
        have gz := grown_setRow wr rb #[.slice none 0 0, .slice none 0 0]
        have KZ := Lib.hid ((HF.out.trans (grown_fr (B := fun k => k < w.heap.size) gz (fun k e b => by cases e; exact HRB.out b))).kept (fun k hk => hk))
        generalize wr.setRow rb #[.slice none 0 0, .slice none 0 0] = wz at RZ KZ gz ⊢
        go_wp2
        refine bodyPost_ret (results_row3 rfl _ _ rb 27 _ (0, 0) _ rfl RZ Try.underlying27 rfl treeInfo) rfl ?_
        exact ⟨rfl, KZ.out⟩
      · have hlti : ¬ (i : Int) < (ln : Int) := by omega
        have HHF := Lib.hid (show i = ln by have := HFL.out; omega)
        clear hf
        go_upto_region 7 with fail
        refine wp_region_lit ?_
        refine @BigFrame.wpList_want _ _ _ _ _ _ _ ?hw48110 ?_
        case hw48110 => kernel_rfl
        intro K hK
        go_simp
        refine hK _ _ ?_
        clear hK K
        refine @BigFrame.wpList_want _ _ _ _ _ _ _ ?hw48111 ?_
        case hw48111 => kernel_rfl
        intro K hK
        go_simp
        refine hK _ _ ?_
        clear hK K
        refine @BigFrame.wpList_want _ _ _ _ _ _ _ ?hw48112 ?_
        case hw48112 => kernel_rfl
        intro K hK
        go_simp
        refine hK _ _ ?_
        clear hK K
        refine @BigFrame.wpList_want _ _ _ _ _ _ _ ?hw48113 ?_
        case hw48113 => kernel_rfl
        intro K hK
        go_simp
        refine hK _ _ ?_
        clear hK K
        refine @BigFrame.wpList_want _ _ _ _ _ _ _ ?hw48114 ?_
        case hw48114 => kernel_rfl
        intro K hK
        go_simp
        refine hK _ _ ?_
        clear hK K
        refine @BigFrame.wpList_want _ _ _ _ _ _ _ ?hw48115 ?_
        case hw48115 => kernel_rfl
        intro K hK
        go_simp
        refine hK _ _ ?_
        clear hK K
        refine @wpList_skip _ _ _ _ _ _ _ ?hw48116 ?_
        case hw48116 => kernel_rfl
        simp only [Act.put, List.setIfInBounds_toArray, List.set_cons_zero, List.set_cons_succ]
        refine @wpList_skip _ _ _ _ _ _ _ ?hw48117 ?_
        case hw48117 => kernel_rfl
        simp only [Act.put, List.setIfInBounds_toArray, List.set_cons_zero, List.set_cons_succ]
        refine @wpList_skip _ _ _ _ _ _ _ ?hw48118 ?_
        case hw48118 => kernel_rfl
        simp only [Act.put, List.setIfInBounds_toArray, List.set_cons_zero, List.set_cons_succ]
        refine @wpList_skip _ _ _ _ _ _ _ ?hw48119 ?_
        case hw48119 => kernel_rfl
        simp only [Act.put, List.setIfInBounds_toArray, List.set_cons_zero, List.set_cons_succ]
        refine @wpList_skip _ _ _ _ _ _ _ ?hw48120 ?_
        case hw48120 => kernel_rfl
        simp only [Act.put, List.setIfInBounds_toArray, List.set_cons_zero, List.set_cons_succ]
        refine @wpList_skip _ _ _ _ _ _ _ ?hw48121 ?_
        case hw48121 => kernel_rfl
        simp only [Act.put, List.setIfInBounds_toArray, List.set_cons_zero, List.set_cons_succ]
        refine @wpList_skip _ _ _ _ _ _ _ ?hw48122 ?_
        case hw48122 => kernel_rfl
        simp only [Act.put, List.setIfInBounds_toArray, List.set_cons_zero, List.set_cons_succ]
        refine @BigFrame.wpList_want _ _ _ _ _ _ _ ?hw48123 ?_
        case hw48123 => kernel_rfl
        intro K hK
        go_simp
        refine hK _ _ ?_
        clear hK K
        clear hlti
        have hf64 : ((i : Int) == 64) = true := by rw [beq_iff_eq]; have := H64.out; omega
        go_upto_region 9 with fail
        refine wp_region_lit ?_
        refine @BigFrame.wpList_want _ _ _ _ _ _ _ ?hw48091 ?_
        case hw48091 => kernel_rfl
        intro K hK
        go_simp
        refine hK _ _ ?_
        clear hK K
        refine @BigFrame.wpList_want _ _ _ _ _ _ _ ?hw48092 ?_
        case hw48092 => kernel_rfl
        intro K hK
        go_simp
        refine hK _ _ ?_
        clear hK K
        clear t0
        go_upto_region 10 with fail
        refine wp_region_lit ?_
        refine @wpL_build0 _ _ _ _ _ _ _ ?hw48093 27 rfl _ (build_tree0 _) ?_
        case hw48093 => kernel_rfl
        simp only [Act.put, List.setIfInBounds_toArray, List.set_cons_zero, List.set_cons_succ]
        refine wpList_store_row rfl 27 _ _ rfl (rb) #[.slice none 0 0, .slice none 0 0] rfl rfl 27 #[.slice none 0 0, .slice none 0 0] HR.out treeInfo rfl (tree_all _ _ _ _ _ _) ?_
        simp only [Act.put]
        refine @BigFrame.wpList_want _ _ _ _ _ _ _ ?hw48094 ?_
        case hw48094 => kernel_rfl
        intro K hK
        go_simp
        refine hK _ _ ?_
        clear hK K
        refine @BigFrame.wpList_want _ _ _ _ _ _ _ ?hw48095 ?_
        case hw48095 => kernel_rfl
        intro K hK
        go_simp
        refine hK _ _ ?_
        clear hK K
        have RZ := setRow_heap wr rb _ #[.slice none 0 0, .slice none 0 0] _ _ HR.out
        have gz := grown_setRow wr rb #[.slice none 0 0, .slice none 0 0]
        have KZ := Lib.hid ((HF.out.trans (grown_fr (B := fun k => k < w.heap.size) gz (fun k e b => by cases e; exact HRB.out b))).kept (fun k hk => hk))
        generalize wr.setRow rb #[.slice none 0 0, .slice none 0 0] = wz at RZ KZ gz ⊢
        go_wp2
        refine bodyPost_ret (results_row3 rfl _ _ rb 27 _ (0, 0) _ rfl RZ Try.underlying27 rfl treeInfo) rfl ?_
        exact ⟨rfl, KZ.out⟩

end Go.Proofs.Ytmmgekchfgmcdaa
