/-
 The document's Right.
-/
import Derived.Test.YtilpehpiikdkbaaGreatDoorTreeFew

namespace Go.Proofs.YtilpehpiikdkbaaGreatDoor
open Go.RowKit Go.Lib

namespace Tt
theorem nameAt_eq {L : List Lf} {k : Nat} (hk : k < L.length) : nameAt L (k : Int) = L[k].name := by
 unfold nameAt
 rw [Int.toNat_natCast, List.getElem?_eq_getElem hk]
 rfl
theorem any_yes {L : List Lf} {i k : Nat} {y : Int} (hi : i ≤ L.length) (hk : k < i) (h : nameAt L (k : Int) = y) : (L.take i).any (fun l => l.name == y) = true := by
 rw [List.any_eq_true]
 refine ⟨L[k], ?_, ?_⟩
 ·rw [List.mem_take_iff_getElem]
  exact ⟨k, by omega, rfl⟩
 ·rw [beq_iff_eq, ← nameAt_eq (by omega)]
  exact h
theorem any_no {L : List Lf} {i : Nat} {y : Int} (h : ∀ j, j < i → nameAt L (j : Int) ≠ y) : (L.take i).any (fun l => l.name == y) = false := by
 rw [List.any_eq_false]
 intro l hl
 obtain ⟨j, hj, rfl⟩ := List.mem_take_iff_getElem.1 hl
 rw [beq_iff_eq, ← nameAt_eq (by omega)]
 exact h j (by omega)
theorem any_next {L : List Lf} {i : Nat} (hi : i < L.length) (y : Int) : (L.take (i + 1)).any (fun l => l.name == y) = ((L.take i).any (fun l => l.name == y) || L[i].name == y) := by
 rw [List.take_succ_eq_append_getElem hi, List.any_append]
 simp
/-- The answer behind the sizes. -/
theorem right_tail {L : List Lf} {P : List Pr} (h1 : L.length ≤ 64) (h2 : P.length = L.length - 1) : right L P = (!lastBlank L && (leavesOk [] L && parentsOk L 0 P)) := by
 rw [right, decide_eq_true h1, decide_eq_true h2]
 rfl
end Tt

set_option maxRecDepth 100000 in
set_option maxHeartbeats 12800000 in
theorem refright_calls8 (lv pv : Value) (L : List Lf) (P : List Pr) (w : World) (hL : Lvs w lv L) (hP : Pts w pv P) (hpl : ∀ p ∈ P, p.loose.length ≤ 1000) :
  Calls Tryz.prog 13 #[.agg #[lv, pv]] w fun e w' => e = .returned (.bool (Tt.right L P)) ∧ Kept w.heap.size w.heap.size w w' := by
 obtain ⟨ad, g, o, c, rfl, hc, _⟩ := hL
 obtain ⟨pad, pg, po, pc, rfl, hpc, _⟩ := hP
 obtain ⟨ln, hln⟩ : ∃ ln, ln = L.length := ⟨_, rfl⟩
 obtain ⟨pn, hpn⟩ : ∃ pn, pn = P.length := ⟨_, rfl⟩
 have HLN := Lib.hid hln
 have HPN := Lib.hid hpn
 rw [← hln, ← hpn]
 have HC := Lib.hid hc
 have HPC := Lib.hid hpc
 have HPL := Lib.hid hpl
 clear hc hpc hln hpn hpl
 have hk1 : Kept w.heap.size w.heap.size w (w.alloc (.cells #[.slice ad ln c, .slice pad pn pc] 27)) := (Kept.refl _ _ _).alloc (Nat.le_refl _) _
 have ht1 := heap_new w (.cells #[.slice ad ln c, .slice pad pn pc] 27)
 have K1 := Lib.hid hk1
 have T1 := Lib.hid ht1
 clear hk1 ht1
 go_enter Tryz.func13, Tryz.ntmps13
 go_upto_region 1 with fail
 generalize w.alloc (.cells #[.slice ad ln c, .slice pad pn pc] 27) = w1 at K1 T1 ⊢
 obtain ⟨tb, htb⟩ : ∃ tb, tb = w.heap.size := ⟨_, rfl⟩
 rw [← htb] at T1 ⊢
 clear htb
 have t0 := two_cell0 T1.out
 have t1 := two_cell1 T1.out
 go_upto_region 2 with fail
 by_cases h1 : 64 < ln
 ·have h1i : (ln : Int) > 64 := by omega
  have H1 := Lib.hid h1
  refine wp_region_lit ?_
  refine @BigFrame.wpList_want _ _ _ _ _ _ _ ?hw14001 ?_
  case hw14001 => kernel_rfl
  intro K hK
  go_simp
  refine hK _ _ ?_
  clear hK K
  refine @BigFrame.wpList_want _ _ _ _ _ _ _ ?hw14002 ?_
  case hw14002 => kernel_rfl
  intro K hK
  go_simp
  refine hK _ _ ?_
  clear hK K
  refine @BigFrame.wpList_want _ _ _ _ _ _ _ ?hw14003 ?_
  case hw14003 => kernel_rfl
  intro K hK
  go_simp
  refine hK _ _ ?_
  clear hK K
  refine @wpList_skip _ _ _ _ _ _ _ ?hw14004 ?_
  case hw14004 => kernel_rfl
  simp only [Act.put, List.setIfInBounds_toArray, List.set_cons_zero, List.set_cons_succ]
  refine @wpList_skip _ _ _ _ _ _ _ ?hw14005 ?_
  case hw14005 => kernel_rfl
  simp only [Act.put, List.setIfInBounds_toArray, List.set_cons_zero, List.set_cons_succ]
  refine @wpList_skip _ _ _ _ _ _ _ ?hw14006 ?_
  case hw14006 => kernel_rfl
  simp only [Act.put, List.setIfInBounds_toArray, List.set_cons_zero, List.set_cons_succ]
  refine @wpList_skip _ _ _ _ _ _ _ ?hw14007 ?_
  case hw14007 => kernel_rfl
  simp only [Act.put, List.setIfInBounds_toArray, List.set_cons_zero, List.set_cons_succ]
  refine @wpList_skip _ _ _ _ _ _ _ ?hw14008 ?_
  case hw14008 => kernel_rfl
  simp only [Act.put, List.setIfInBounds_toArray, List.set_cons_zero, List.set_cons_succ]
  refine @wpList_skip _ _ _ _ _ _ _ ?hw14009 ?_
  case hw14009 => kernel_rfl
  simp only [Act.put, List.setIfInBounds_toArray, List.set_cons_zero, List.set_cons_succ]
  refine @wpList_skip _ _ _ _ _ _ _ ?hw14010 ?_
  case hw14010 => kernel_rfl
  simp only [Act.put, List.setIfInBounds_toArray, List.set_cons_zero, List.set_cons_succ]
  refine @wpList_skip _ _ _ _ _ _ _ ?hw14011 ?_
  case hw14011 => kernel_rfl
  simp only [Act.put, List.setIfInBounds_toArray, List.set_cons_zero, List.set_cons_succ]
  refine @wpList_skip _ _ _ _ _ _ _ ?hw14012 ?_
  case hw14012 => kernel_rfl
  simp only [Act.put, List.setIfInBounds_toArray, List.set_cons_zero, List.set_cons_succ]
  refine @wpList_skip _ _ _ _ _ _ _ ?hw14013 ?_
  case hw14013 => kernel_rfl
  simp only [Act.put, List.setIfInBounds_toArray, List.set_cons_zero, List.set_cons_succ]
  refine @BigFrame.wpList_want _ _ _ _ _ _ _ ?hw14014 ?_
  case hw14014 => kernel_rfl
  intro K hK
  go_simp
  refine hK _ _ ?_
  clear hK K
  refine @BigFrame.wpList_want _ _ _ _ _ _ _ ?hw14015 ?_
  case hw14015 => kernel_rfl
  intro K hK
  go_simp
  refine hK _ _ ?_
  clear hK K
  refine @wpList_skip _ _ _ _ _ _ _ ?hw14016 ?_
  case hw14016 => kernel_rfl
  simp only [Act.put, List.setIfInBounds_toArray, List.set_cons_zero, List.set_cons_succ]
  refine @wpList_skip _ _ _ _ _ _ _ ?hw14017 ?_
  case hw14017 => kernel_rfl
  simp only [Act.put, List.setIfInBounds_toArray, List.set_cons_zero, List.set_cons_succ]
  refine @wpList_skip _ _ _ _ _ _ _ ?hw14018 ?_
  case hw14018 => kernel_rfl
  simp only [Act.put, List.setIfInBounds_toArray, List.set_cons_zero, List.set_cons_succ]
  refine @wpList_skip _ _ _ _ _ _ _ ?hw14019 ?_
  case hw14019 => kernel_rfl
  simp only [Act.put, List.setIfInBounds_toArray, List.set_cons_zero, List.set_cons_succ]
  refine @wpList_skip _ _ _ _ _ _ _ ?hw14020 ?_
  case hw14020 => kernel_rfl
  simp only [Act.put, List.setIfInBounds_toArray, List.set_cons_zero, List.set_cons_succ]
  refine @wpList_skip _ _ _ _ _ _ _ ?hw14021 ?_
  case hw14021 => kernel_rfl
  simp only [Act.put, List.setIfInBounds_toArray, List.set_cons_zero, List.set_cons_succ]
  refine @wpList_skip _ _ _ _ _ _ _ ?hw14022 ?_
  case hw14022 => kernel_rfl
  simp only [Act.put, List.setIfInBounds_toArray, List.set_cons_zero, List.set_cons_succ]
  refine @wpList_skip _ _ _ _ _ _ _ ?hw14023 ?_
  case hw14023 => kernel_rfl
  simp only [Act.put, List.setIfInBounds_toArray, List.set_cons_zero, List.set_cons_succ]
  refine @BigFrame.wpList_want _ _ _ _ _ _ _ ?hw14024 ?_
  case hw14024 => kernel_rfl
  intro K hK
  go_simp
  refine hK _ _ ?_
  clear hK K
  clear h1 h1i
  go_wp2
  go_ret
  refine ⟨?_, K1.out⟩
  have hf : Tt.right L P = false := by
   rw [Tt.right, decide_eq_false (show ¬ L.length ≤ 64 by have := H1.out; have := HLN.out; omega)]; rfl
  rw [hf]; rfl
 ·have h1i : ¬ (ln : Int) > 64 := by omega
  have H1 := Lib.hid (show ln ≤ 64 by omega)
  by_cases h0 : 0 < ln
  ·have h0i : (ln : Int) > 0 := by omega
   have h0z : ((ln : Int) == 0) = false := by rw [beq_eq_false_iff_ne]; omega
   have h0w : IntKind.i64.wrap ((ln : Int) - 1) = ((ln - 1 : Nat) : Int) := by rw [IntKind.wrap_i64]; omega
   by_cases h2 : pn = ln - 1
   ·have h2n : ((pn : Int) != ((ln : Int) - 1)) = false := by rw [bne, show ((pn : Int) == ((ln : Int) - 1)) = true by rw [beq_iff_eq]; omega]; rfl
    have h2m : ((pn : Int) != ((ln - 1 : Nat) : Int)) = false := by rw [bne, show ((pn : Int) == ((ln - 1 : Nat) : Int)) = true by rw [beq_iff_eq]; omega]; rfl
    have H2 := Lib.hid h2
    refine wp_region_lit ?_
    refine @BigFrame.wpList_want _ _ _ _ _ _ _ ?hw14543 ?_
    case hw14543 => kernel_rfl
    intro K hK
    go_simp
    refine hK _ _ ?_
    clear hK K
    refine @BigFrame.wpList_want _ _ _ _ _ _ _ ?hw14544 ?_
    case hw14544 => kernel_rfl
    intro K hK
    go_simp
    refine hK _ _ ?_
    clear hK K
    refine @BigFrame.wpList_want _ _ _ _ _ _ _ ?hw14545 ?_
    case hw14545 => kernel_rfl
    intro K hK
    go_simp
    refine hK _ _ ?_
    clear hK K
    refine @BigFrame.wpList_want _ _ _ _ _ _ _ ?hw14546 ?_
    case hw14546 => kernel_rfl
    intro K hK
    go_simp
    refine hK _ _ ?_
    clear hK K
    refine @BigFrame.wpList_want _ _ _ _ _ _ _ ?hw14547 ?_
    case hw14547 => kernel_rfl
    intro K hK
    go_simp
    refine hK _ _ ?_
    clear hK K
    refine @BigFrame.wpList_want _ _ _ _ _ _ _ ?hw14548 ?_
    case hw14548 => kernel_rfl
    intro K hK
    go_simp
    refine hK _ _ ?_
    clear hK K
    refine @BigFrame.wpList_want _ _ _ _ _ _ _ ?hw14549 ?_
    case hw14549 => kernel_rfl
    intro K hK
    go_simp
    refine hK _ _ ?_
    clear hK K
    refine @BigFrame.wpList_want _ _ _ _ _ _ _ ?hw14550 ?_
    case hw14550 => kernel_rfl
    intro K hK
    go_simp
    refine hK _ _ ?_
    clear hK K
    refine @BigFrame.wpList_want _ _ _ _ _ _ _ ?hw14551 ?_
    case hw14551 => kernel_rfl
    intro K hK
    go_simp
    refine hK _ _ ?_
    clear hK K
    refine @BigFrame.wpList_want _ _ _ _ _ _ _ ?hw14552 ?_
    case hw14552 => kernel_rfl
    intro K hK
    go_simp
    refine hK _ _ ?_
    clear hK K
    refine @BigFrame.wpList_want _ _ _ _ _ _ _ ?hw14553 ?_
    case hw14553 => kernel_rfl
    intro K hK
    go_simp
    refine hK _ _ ?_
    clear hK K
    refine @BigFrame.wpList_want _ _ _ _ _ _ _ ?hw14554 ?_
    case hw14554 => kernel_rfl
    intro K hK
    go_simp
    refine hK _ _ ?_
    clear hK K
    refine @BigFrame.wpList_want _ _ _ _ _ _ _ ?hw14555 ?_
    case hw14555 => kernel_rfl
    intro K hK
    go_simp
    refine hK _ _ ?_
    clear hK K
    refine @BigFrame.wpList_want _ _ _ _ _ _ _ ?hw14556 ?_
    case hw14556 => kernel_rfl
    intro K hK
    go_simp
    refine hK _ _ ?_
    clear hK K
    refine @BigFrame.wpList_want _ _ _ _ _ _ _ ?hw14557 ?_
    case hw14557 => kernel_rfl
    intro K hK
    go_simp
    refine hK _ _ ?_
    clear hK K
    refine @BigFrame.wpList_want _ _ _ _ _ _ _ ?hw14558 ?_
    case hw14558 => kernel_rfl
    intro K hK
    go_simp
    refine hK _ _ ?_
    clear hK K
    refine @BigFrame.wpList_want _ _ _ _ _ _ _ ?hw14559 ?_
    case hw14559 => kernel_rfl
    intro K hK
    go_simp
    refine hK _ _ ?_
    clear hK K
    refine @BigFrame.wpList_want _ _ _ _ _ _ _ ?hw14560 ?_
    case hw14560 => kernel_rfl
    intro K hK
    go_simp
    refine hK _ _ ?_
    clear hK K
    refine @wpList_skip _ _ _ _ _ _ _ ?hw14561 ?_
    case hw14561 => kernel_rfl
    simp only [Act.put, List.setIfInBounds_toArray, List.set_cons_zero, List.set_cons_succ]
    refine @wpList_skip _ _ _ _ _ _ _ ?hw14562 ?_
    case hw14562 => kernel_rfl
    simp only [Act.put, List.setIfInBounds_toArray, List.set_cons_zero, List.set_cons_succ]
    refine @wpList_skip _ _ _ _ _ _ _ ?hw14563 ?_
    case hw14563 => kernel_rfl
    simp only [Act.put, List.setIfInBounds_toArray, List.set_cons_zero, List.set_cons_succ]
    refine @wpList_skip _ _ _ _ _ _ _ ?hw14564 ?_
    case hw14564 => kernel_rfl
    simp only [Act.put, List.setIfInBounds_toArray, List.set_cons_zero, List.set_cons_succ]
    refine @BigFrame.wpList_want _ _ _ _ _ _ _ ?hw14565 ?_
    case hw14565 => kernel_rfl
    intro K hK
    go_simp
    refine hK _ _ ?_
    clear hK K
    refine @BigFrame.wpList_want _ _ _ _ _ _ _ ?hw14566 ?_
    case hw14566 => kernel_rfl
    intro K hK
    go_simp
    refine hK _ _ ?_
    clear hK K
    clear h1 h1i
    clear h0 h0i h0z h0w h2 h2n h2m
    have HRT := Lib.hid (Tt.right_tail (L := L) (P := P) (by rw [← HLN.out]; exact H1.out) (by rw [← HLN.out, ← HPN.out]; exact H2.out))
    have hb9 : (ln : Int) ≤ 64 := by have := H1.out; omega
    have hp9 : (pn : Int) ≤ 64 := by have := H1.out; have := H2.out; omega
    go_wp2
    clear t0 t1
    go_loopw [4] (fun s4 wr => ∃ i : Nat, s4 = .int .i64 (i : Int) ∧ ∃ M : List Int, Hid (i ≤ ln) ∧ Hid (Tt.leavesOk [] L = Tt.leavesOk M (L.drop i)) ∧ Hid (∀ y, 1 ≤ y → M.contains y = (L.take i).any (fun l => l.name == y)) ∧ Hid (wr.heap[tb]? = some (.cells #[.slice ad ln c, .slice pad pn pc] 27 (0, 0))) ∧ Hid (Kept w.heap.size w.heap.size w wr)) (fun s4 _ => ln - (RowKit.intOf s4).toNat)
    case atStart => exact ⟨0, rfl, [], Lib.hid (Nat.zero_le _), Lib.hid rfl, Lib.hid (fun _ _ => rfl), T1, K1⟩
    case round =>
     obtain ⟨i, rfl, M, hi, HEQ, HME, HTB, HK⟩ := hrel
     by_cases hlt : i < ln
     ·have hiL : i < L.length := by rw [← HLN.out]; exact hlt
      obtain ⟨rfl, hg, hok, hr⟩ := HC.out i hiL
      have t0 := two_cell0 HTB.out
      have hlti : (i : Int) < (ln : Int) := by omega
      have hi0 : ¬ (i : Int) < 0 := by omega
      have hst : Tt.leavesOk [] L = Tt.leavesOk M (L[i] :: L.drop (i + 1)) := by rw [HEQ.out, List.drop_eq_getElem_cons hiL]
      have hnx : ∀ y, 1 ≤ y → ((L.take i).any (fun l => l.name == y) || L[i].name == y) = (L.take (i + 1)).any (fun l => l.name == y) := fun y _ => (Tt.any_next hiL y).symm
      have HLA := Lib.hid (run_loadVar_mid wr g (o + i * 97) 48 L[i].cells _ (rangeAt_kept HK.out hr hg (Nat.ne_of_lt hg)) Tryz.underlying48 rfl (by have := leafInfo (Lf.size hok); simpa using this))
      clear hr
      generalize L[i] = l at hst HLA hok hnx
      have HST := Lib.hid hst
      have HNX := Lib.hid hnx
      have HSZ := Lib.hid (leafInfo (Lf.size hok))
      have HS0 := Lib.hid (show Lf.zero.cells.toArray.size = l.cells.toArray.size by rw [Lf.size hok, Lf.size Lf.zero_ok])
      have HAL := Lib.hid l.all
      have heq0 := fun w => leaf_equalIn w l Lf.zero hok Lf.zero_ok
      have HNC := Lib.hid (fun (x : World) (b : Nat) (h : x.heap[b]? = some (.cells l.cells.toArray 48 (0, 0))) => leaf_name_cell h)
      have HLT := Lib.hid hlt
      obtain ⟨D, hD⟩ : ∃ D, D = l.cells.toArray := ⟨_, rfl⟩
      obtain ⟨Z, hZ⟩ : ∃ Z, Z = Lf.zero.cells.toArray := ⟨_, rfl⟩
      rw [← hD] at HLA HSZ HS0 HAL HNC
      rw [← hZ] at HS0
      simp only [← hD, ← hZ] at heq0
      have HBZ := Lib.hid (fun w => show (Instr.build 48 #[]).run Tryz.prog w = .ok (.agg Z) w by rw [hZ]; exact build_leaf0 w)
      have HAZ := Lib.hid (fun w => show (Instr.alloc 48 true (.tuple #[])).run Tryz.prog w = .ok (.pointer (some ⟨w.heap.size, 0, none⟩)) (w.alloc (.cells Z 48)) by rw [hZ]; exact alloc_leaf w)
      clear hst hok hlt hi hg hD hiL hnx
      go_upto_region 7 with fail
      refine wp_region_lit ?_
      refine @BigFrame.wpList_want _ _ _ _ _ _ _ ?hw14073 ?_
      case hw14073 => kernel_rfl
      intro K hK
      go_simp
      refine hK _ _ ?_
      clear hK K
      refine @BigFrame.wpList_want _ _ _ _ _ _ _ ?hw14074 ?_
      case hw14074 => kernel_rfl
      intro K hK
      go_simp
      refine hK _ _ ?_
      clear hK K
      refine @BigFrame.wpList_want _ _ _ _ _ _ _ ?hw14075 ?_
      case hw14075 => kernel_rfl
      intro K hK
      go_simp
      refine hK _ _ ?_
      clear hK K
      refine @BigFrame.wpList_want _ _ _ _ _ _ _ ?hw14076 ?_
      case hw14076 => kernel_rfl
      intro K hK
      go_simp
      refine hK _ _ ?_
      clear hK K
      refine @wpList_load_known _ _ _ _ _ _ _ ?hw14077 48 (.tmp 46) rfl (g) (o + i * 97) rfl (.agg D) (HLA.out) ?_
      case hw14077 => kernel_rfl
      simp only [Act.put, List.setIfInBounds_toArray, List.set_cons_zero, List.set_cons_succ]
      refine @wpL_alloc _ _ _ _ _ _ _ _ ?hw14078 48 rfl _ (HAZ.out _) ?_
      case hw14078 => kernel_rfl
      simp only [Act.put, List.setIfInBounds_toArray, List.set_cons_zero, List.set_cons_succ]
      refine wpList_store_row rfl 48 _ _ rfl (wr.heap.size) D rfl rfl 48 Z (heap_new _ _) (HSZ.out) (HS0.out) (HAL.out) ?_
      simp only [Act.put]
      rw [World.setRow_alloc_new]
      clear t0
      have kk : Kept wr.heap.size wr.heap.size wr (wr.alloc (.cells D 48)) := (Kept.refl _ _ _).alloc (Nat.le_refl _) _
      have K2 := Lib.hid (HK.out.next1 kk)
      have T2 := Lib.hid ((kk.block tb (lt_of_block HTB.out) (Nat.ne_of_lt (lt_of_block HTB.out))).trans HTB.out)
      have L2 := Lib.hid (heap_new wr (.cells D 48))
      clear kk
      generalize wr.alloc (.cells D 48) = w2 at K2 T2 L2 ⊢
      obtain ⟨lb, hlb⟩ : ∃ lb, lb = wr.heap.size := ⟨_, rfl⟩
      rw [← hlb] at L2 ⊢
      clear hlb
      have HQ0 := Lib.hid heq0
      clear heq0 hZ
      go_upto_region 8 with fail
      refine wp_region_lit ?_
      refine @wpList_load_known _ _ _ _ _ _ _ ?hw14079 48 (.tmp 5) rfl (lb) (0) rfl (.agg D) (run_loadVar_row w2 lb 48 48 D (0, 0) _ L2.out Tryz.underlying48 rfl HSZ.out) ?_
      case hw14079 => kernel_rfl
      simp only [Act.put, List.setIfInBounds_toArray, List.set_cons_zero, List.set_cons_succ]
      refine @wpL_build0 _ _ _ _ _ _ _ ?hw14080 48 rfl _ (HBZ.out _) ?_
      case hw14080 => kernel_rfl
      simp only [Act.put, List.setIfInBounds_toArray, List.set_cons_zero, List.set_cons_succ]
      refine @wpL_eql _ _ _ _ _ _ _ ?hw14081 _ _ _ _ rfl (D) (Z) rfl rfl leafGuard (l.same Lf.zero) (HQ0.out w2) ?_
      case hw14081 => kernel_rfl
      simp only [Act.put, List.setIfInBounds_toArray, List.set_cons_zero, List.set_cons_succ]
      by_cases hz : l.same Lf.zero = true
      ·rw [hz]
       have HZ := Lib.hid hz
       clear hz
       go_wp2
       go_roundw
       case rel => exact ⟨i + 1, by simp, M, Lib.hid HLT.out, Lib.hid (by rw [HST.out, Tt.leavesOk, if_pos HZ.out]), Lib.hid (fun y hy => by
        rw [← HNX.out y hy, ← HME.out y hy]
        have h0 : l = Lf.zero := Lf.same_iff.1 HZ.out
        have : (l.name == y) = false := by rw [h0, beq_eq_false_iff_ne]; show (0 : Int) ≠ y; omega
        rw [this, Bool.or_false]), T2, K2⟩
       case measure => have := HLT.out; simp [RowKit.intOf]; omega
      ·rw [Bool.not_eq_true] at hz
       rw [hz]
       have HZ := Lib.hid hz
       have hnc := HNC.out w2 lb L2.out
       clear hz
       obtain ⟨y, hy⟩ : ∃ y, y = l.name := ⟨_, rfl⟩
       rw [← hy] at hnc
       have HY := Lib.hid hy
       clear hy
       by_cases h1 : y < 1
       ·have H9 := Lib.hid h1
        go_upto_region 9 with fail
        refine wp_region_lit ?_
        refine @BigFrame.wpList_want _ _ _ _ _ _ _ ?hw14082 ?_
        case hw14082 => kernel_rfl
        intro K hK
        go_simp
        refine hK _ _ ?_
        clear hK K
        refine @BigFrame.wpList_want _ _ _ _ _ _ _ ?hw14083 ?_
        case hw14083 => kernel_rfl
        intro K hK
        go_simp
        refine hK _ _ ?_
        clear hK K
        refine @BigFrame.wpList_want _ _ _ _ _ _ _ ?hw14084 ?_
        case hw14084 => kernel_rfl
        intro K hK
        go_simp
        refine hK _ _ ?_
        clear hK K
        refine @BigFrame.wpList_want _ _ _ _ _ _ _ ?hw14085 ?_
        case hw14085 => kernel_rfl
        intro K hK
        go_simp
        refine hK _ _ ?_
        clear hK K
        refine @wpList_skip _ _ _ _ _ _ _ ?hw14086 ?_
        case hw14086 => kernel_rfl
        simp only [Act.put, List.setIfInBounds_toArray, List.set_cons_zero, List.set_cons_succ]
        refine @wpList_skip _ _ _ _ _ _ _ ?hw14087 ?_
        case hw14087 => kernel_rfl
        simp only [Act.put, List.setIfInBounds_toArray, List.set_cons_zero, List.set_cons_succ]
        refine @wpList_skip _ _ _ _ _ _ _ ?hw14088 ?_
        case hw14088 => kernel_rfl
        simp only [Act.put, List.setIfInBounds_toArray, List.set_cons_zero, List.set_cons_succ]
        refine @BigFrame.wpList_want _ _ _ _ _ _ _ ?hw14089 ?_
        case hw14089 => kernel_rfl
        intro K hK
        go_simp
        refine hK _ _ ?_
        clear hK K
        clear h1 hnc
        go_wp2
        go_ret
        refine ⟨?_, K2.out⟩
        have hf : Tt.right L P = false := by
         have hl : Tt.leavesOk [] L = false := by
          rw [HST.out, Tt.leavesOk, if_neg (by rw [HZ.out]; exact Bool.false_ne_true), ← HY.out]
          rw [decide_eq_false (show ¬ 1 ≤ y by have := H9.out; omega)]; rfl
         rw [HRT.out, hl]; simp
        rw [hf]; rfl
       ·by_cases h2 : y > 64
        ·have H9 := Lib.hid h2
         go_upto_region 9 with fail
         refine wp_region_lit ?_
         refine @BigFrame.wpList_want _ _ _ _ _ _ _ ?hw14090 ?_
         case hw14090 => kernel_rfl
         intro K hK
         go_simp
         refine hK _ _ ?_
         clear hK K
         refine @BigFrame.wpList_want _ _ _ _ _ _ _ ?hw14091 ?_
         case hw14091 => kernel_rfl
         intro K hK
         go_simp
         refine hK _ _ ?_
         clear hK K
         refine @BigFrame.wpList_want _ _ _ _ _ _ _ ?hw14092 ?_
         case hw14092 => kernel_rfl
         intro K hK
         go_simp
         refine hK _ _ ?_
         clear hK K
         refine @BigFrame.wpList_want _ _ _ _ _ _ _ ?hw14093 ?_
         case hw14093 => kernel_rfl
         intro K hK
         go_simp
         refine hK _ _ ?_
         clear hK K
         refine @BigFrame.wpList_want _ _ _ _ _ _ _ ?hw14094 ?_
         case hw14094 => kernel_rfl
         intro K hK
         go_simp
         refine hK _ _ ?_
         clear hK K
         refine @BigFrame.wpList_want _ _ _ _ _ _ _ ?hw14095 ?_
         case hw14095 => kernel_rfl
         intro K hK
         go_simp
         refine hK _ _ ?_
         clear hK K
         refine @BigFrame.wpList_want _ _ _ _ _ _ _ ?hw14096 ?_
         case hw14096 => kernel_rfl
         intro K hK
         go_simp
         refine hK _ _ ?_
         clear hK K
         refine @BigFrame.wpList_want _ _ _ _ _ _ _ ?hw14097 ?_
         case hw14097 => kernel_rfl
         intro K hK
         go_simp
         refine hK _ _ ?_
         clear hK K
         clear h1 h2 hnc
         go_wp2
         go_ret
         refine ⟨?_, K2.out⟩
         have hf : Tt.right L P = false := by
          have hl : Tt.leavesOk [] L = false := by
           rw [HST.out, Tt.leavesOk, if_neg (by rw [HZ.out]; exact Bool.false_ne_true), ← HY.out]
           rw [decide_eq_false (show ¬ y ≤ 64 by have := H9.out; omega)]; simp
          rw [HRT.out, hl]; simp
         rw [hf]; rfl
        ·have H9 := Lib.hid h1
         have H8 := Lib.hid h2
         go_upto_region 9 with fail
         refine wp_region_lit ?_
         refine @BigFrame.wpList_want _ _ _ _ _ _ _ ?hw14098 ?_
         case hw14098 => kernel_rfl
         intro K hK
         go_simp
         refine hK _ _ ?_
         clear hK K
         refine @BigFrame.wpList_want _ _ _ _ _ _ _ ?hw14099 ?_
         case hw14099 => kernel_rfl
         intro K hK
         go_simp
         refine hK _ _ ?_
         clear hK K
         refine @BigFrame.wpList_want _ _ _ _ _ _ _ ?hw14100 ?_
         case hw14100 => kernel_rfl
         intro K hK
         go_simp
         refine hK _ _ ?_
         clear hK K
         refine @BigFrame.wpList_want _ _ _ _ _ _ _ ?hw14101 ?_
         case hw14101 => kernel_rfl
         intro K hK
         go_simp
         refine hK _ _ ?_
         clear hK K
         refine @BigFrame.wpList_want _ _ _ _ _ _ _ ?hw14102 ?_
         case hw14102 => kernel_rfl
         intro K hK
         go_simp
         refine hK _ _ ?_
         clear hK K
         refine @BigFrame.wpList_want _ _ _ _ _ _ _ ?hw14103 ?_
         case hw14103 => kernel_rfl
         intro K hK
         go_simp
         refine hK _ _ ?_
         clear hK K
         refine @BigFrame.wpList_want _ _ _ _ _ _ _ ?hw14104 ?_
         case hw14104 => kernel_rfl
         intro K hK
         go_simp
         refine hK _ _ ?_
         clear hK K
         refine @BigFrame.wpList_want _ _ _ _ _ _ _ ?hw14105 ?_
         case hw14105 => kernel_rfl
         intro K hK
         go_simp
         refine hK _ _ ?_
         clear hK K
         clear h1 h2 hnc
         go_wp2
         go_loopw [6] (fun s6 wr => ∃ k : Nat, s6 = .int .i64 (k : Int) ∧ Hid (k ≤ i) ∧ Hid (∀ j : Nat, j < k → Tt.nameAt L (j : Int) ≠ y) ∧ Hid (wr.heap[tb]? = some (.cells #[.slice (some ⟨g, o, none⟩) ln c, .slice pad pn pc] 27 (0, 0))) ∧ Hid (wr.heap[lb]? = some (.cells D 48 (0, 0))) ∧ Hid (Kept w.heap.size w.heap.size w wr)) (fun s6 _ => i - (RowKit.intOf s6).toNat)
         case atStart => exact ⟨0, rfl, Lib.hid (Nat.zero_le _), Lib.hid (fun j hj => absurd hj (Nat.not_lt_zero _)), T2, L2, K2⟩
         case round =>
          clear T2 L2 K2
          obtain ⟨k, rfl, hk, HNE, T3, L3, K3⟩ := hrel
          by_cases hlk : k < i
          ·have hkL : k < L.length := by have := HLT.out; rw [← HLN.out]; omega
           obtain ⟨_, hgk, hokk, hrk⟩ := HC.out k hkL
           have hck0 : w.cell? ⟨g, o + k * 97, none⟩ = some (.int .i64 L[k].name) := hrk 0 _ (by simp [Lf.cells])
           rw [← Tt.nameAt_eq hkL] at hck0
           have hck := (K3.out.cell (p := ⟨g, o + k * 97, none⟩) hgk (Nat.ne_of_lt hgk)).trans hck0
           have hgw := Nat.lt_of_lt_of_le hgk K3.out.size
           have hyc := HNC.out _ lb L3.out
           rw [← HY.out] at hyc
           have hlbw := lt_of_block L3.out
           obtain ⟨nk, hnk⟩ : ∃ nk, nk = Tt.nameAt L (k : Int) := ⟨_, rfl⟩
           rw [← hnk] at hck
           have HNK := Lib.hid hnk
           have HLS := Lib.hid (fun (x : World) (q : Kept wr.heap.size wr.heap.size wr x) => load_slice (t := 24) (d := .int .u8) (two_cell0 ((q.block tb (lt_of_block T3.out) (Nat.ne_of_lt (lt_of_block T3.out))).trans T3.out)) (.inl rfl) rfl)
           have HKN := Lib.hid (fun (x : World) (q : Kept wr.heap.size wr.heap.size wr x) => load_int ((q.cell (p := ⟨g, o + k * 97, none⟩) hgw (Nat.ne_of_lt hgw)).trans hck))
           have HYN := Lib.hid (fun (x : World) (q : Kept wr.heap.size wr.heap.size wr x) => load_int ((q.cell (p := ⟨lb, 0, none⟩) hlbw (Nat.ne_of_lt hlbw)).trans hyc))
           have hlki : (k : Int) < (i : Int) := by omega
           have hlkn : (k : Int) < (ln : Int) := by omega
           have hk0 : ¬ (k : Int) < 0 := by omega
           have HLK := Lib.hid hlk
           have KD : Hid (Kept wr.heap.size wr.heap.size wr wr.drew) := Lib.hid (Kept.refl _ _ _).drew
           have K4 := Lib.hid (K3.out.next1 KD.out)
           have T4 := Lib.hid ((KD.out.block tb (lt_of_block T3.out) (Nat.ne_of_lt (lt_of_block T3.out))).trans T3.out)
           have L4 := Lib.hid ((KD.out.block lb (lt_of_block L3.out) (Nat.ne_of_lt (lt_of_block L3.out))).trans L3.out)
           clear hck hck0 hrk hokk hgk hkL hgw hyc hlbw hnk hk hlk KD
           go_upto_region 14 with fail
           by_cases he : nk = y
           ·have heb : (nk == y) = true := by rw [beq_iff_eq]; exact he
            have HE := Lib.hid he
            clear he
            refine wp_region_noPanic ?_
            refine wp_region_held_drew (S := fun w' => Kept wr.heap.size wr.heap.size wr w') (by kernel_rfl) ((Kept.refl _ _ _).drew) (fun hH => ?_)
            refine wpAnyH_take_ex (i := 0) 64 rfl rfl (by kernel_rfl) (by kernel_rfl) (by kernel_rfl) (fun _ _ _ _ h => h) (by kernel_rfl) hH ?_
            apply Exists.intro
            apply And.intro
            ·intro w9 _
             go_simp
             first | done | rfl
            simp only [List.setIfInBounds_toArray, List.set_cons_zero, List.set_cons_succ]
            refine wpAnyH_take_at (i := 1) 65 (.slice (some ⟨g, o, none⟩) ln c) rfl rfl (by kernel_rfl) (by kernel_rfl) (by kernel_rfl) (fun _ _ _ h => h) (yieldsIf_load_known (by kernel_rfl) 24 _ rfl (tb) (0) rfl (.slice (some ⟨g, o, none⟩) ln c) (fun w' hw' => HLS.out w' hw')) hH ?_
            simp only [List.setIfInBounds_toArray, List.set_cons_zero, List.set_cons_succ]
            refine wpAnyH_take_ex (i := 2) 66 rfl rfl (by kernel_rfl) (by kernel_rfl) (by kernel_rfl) (fun _ _ _ _ h => h) (by kernel_rfl) hH ?_
            apply Exists.intro
            apply And.intro
            ·intro w9 _
             go_simp
             first | done | rfl
            simp only [List.setIfInBounds_toArray, List.set_cons_zero, List.set_cons_succ]
            refine wpAnyH_take_ex (i := 3) 67 rfl rfl (by kernel_rfl) (by kernel_rfl) (by kernel_rfl) (fun _ _ _ _ h => h) (by kernel_rfl) hH ?_
            apply Exists.intro
            apply And.intro
            ·intro w9 _
             go_simp
             first | done | rfl
            simp only [List.setIfInBounds_toArray, List.set_cons_zero, List.set_cons_succ]
            refine wpAnyH_take_ex (i := 4) 68 rfl rfl (by kernel_rfl) (by kernel_rfl) (by kernel_rfl) (fun _ _ _ _ h => h) (by kernel_rfl) hH ?_
            apply Exists.intro
            apply And.intro
            ·intro w9 _
             go_simp
             first | done | rfl
            simp only [List.setIfInBounds_toArray, List.set_cons_zero, List.set_cons_succ]
            refine wpAnyH_take_at (i := 5) 69 (.int .i64 nk) rfl rfl (by kernel_rfl) (by kernel_rfl) (by kernel_rfl) (fun _ _ _ h => h) (yieldsIf_load_known (by kernel_rfl) 3 _ rfl (g) (o + k * 97) rfl (.int .i64 nk) (fun w' hw' => HKN.out w' hw')) hH ?_
            simp only [List.setIfInBounds_toArray, List.set_cons_zero, List.set_cons_succ]
            refine wpAnyH_take_ex (i := 6) 70 rfl rfl (by kernel_rfl) (by kernel_rfl) (by kernel_rfl) (fun _ _ _ _ h => h) (by kernel_rfl) hH ?_
            apply Exists.intro
            apply And.intro
            ·intro w9 _
             go_simp
             first | done | rfl
            simp only [List.setIfInBounds_toArray, List.set_cons_zero, List.set_cons_succ]
            refine wpAnyH_take_at (i := 7) 71 (.int .i64 y) rfl rfl (by kernel_rfl) (by kernel_rfl) (by kernel_rfl) (fun _ _ _ h => h) (yieldsIf_load_known (by kernel_rfl) 3 _ rfl (lb) (0) rfl (.int .i64 y) (fun w' hw' => HYN.out w' hw')) hH ?_
            simp only [List.setIfInBounds_toArray, List.set_cons_zero, List.set_cons_succ]
            refine wpAnyH_take_ex (i := 8) 72 rfl rfl (by kernel_rfl) (by kernel_rfl) (by kernel_rfl) (fun _ _ _ _ h => h) (by kernel_rfl) hH ?_
            apply Exists.intro
            apply And.intro
            ·intro w9 _
             go_simp
             first | done | rfl
            simp only [List.setIfInBounds_toArray, List.set_cons_zero, List.set_cons_succ]
            refine wpAnyH_done (by kernel_rfl) ?_ _
            refine NoPanic.normal ?_
            clear heb
            go_wp2
            go_ret
            refine ⟨?_, K4.out⟩
            have hf : Tt.right L P = false := by
             have hl : Tt.leavesOk [] L = false := by
              rw [HST.out, Tt.leavesOk, if_neg (by rw [HZ.out]; exact Bool.false_ne_true), ← HY.out, HME.out y (by have := H9.out; omega), Tt.any_yes (by have := HLT.out; rw [← HLN.out]; omega) HLK.out (by rw [← HNK.out]; exact HE.out)]
              simp
             rw [HRT.out, hl]; simp
            rw [hf]; rfl
           ·have heb : (nk == y) = false := by rw [beq_eq_false_iff_ne]; exact he
            have HE := Lib.hid he
            clear he
            refine wp_region_noPanic ?_
            refine wp_region_held_drew (S := fun w' => Kept wr.heap.size wr.heap.size wr w') (by kernel_rfl) ((Kept.refl _ _ _).drew) (fun hH => ?_)
            refine wpAnyH_take_ex (i := 0) 64 rfl rfl (by kernel_rfl) (by kernel_rfl) (by kernel_rfl) (fun _ _ _ _ h => h) (by kernel_rfl) hH ?_
            apply Exists.intro
            apply And.intro
            ·intro w9 _
             go_simp
             first | done | rfl
            simp only [List.setIfInBounds_toArray, List.set_cons_zero, List.set_cons_succ]
            refine wpAnyH_take_at (i := 1) 65 (.slice (some ⟨g, o, none⟩) ln c) rfl rfl (by kernel_rfl) (by kernel_rfl) (by kernel_rfl) (fun _ _ _ h => h) (yieldsIf_load_known (by kernel_rfl) 24 _ rfl (tb) (0) rfl (.slice (some ⟨g, o, none⟩) ln c) (fun w' hw' => HLS.out w' hw')) hH ?_
            simp only [List.setIfInBounds_toArray, List.set_cons_zero, List.set_cons_succ]
            refine wpAnyH_take_ex (i := 2) 66 rfl rfl (by kernel_rfl) (by kernel_rfl) (by kernel_rfl) (fun _ _ _ _ h => h) (by kernel_rfl) hH ?_
            apply Exists.intro
            apply And.intro
            ·intro w9 _
             go_simp
             first | done | rfl
            simp only [List.setIfInBounds_toArray, List.set_cons_zero, List.set_cons_succ]
            refine wpAnyH_take_ex (i := 3) 67 rfl rfl (by kernel_rfl) (by kernel_rfl) (by kernel_rfl) (fun _ _ _ _ h => h) (by kernel_rfl) hH ?_
            apply Exists.intro
            apply And.intro
            ·intro w9 _
             go_simp
             first | done | rfl
            simp only [List.setIfInBounds_toArray, List.set_cons_zero, List.set_cons_succ]
            refine wpAnyH_take_ex (i := 4) 68 rfl rfl (by kernel_rfl) (by kernel_rfl) (by kernel_rfl) (fun _ _ _ _ h => h) (by kernel_rfl) hH ?_
            apply Exists.intro
            apply And.intro
            ·intro w9 _
             go_simp
             first | done | rfl
            simp only [List.setIfInBounds_toArray, List.set_cons_zero, List.set_cons_succ]
            refine wpAnyH_take_at (i := 5) 69 (.int .i64 nk) rfl rfl (by kernel_rfl) (by kernel_rfl) (by kernel_rfl) (fun _ _ _ h => h) (yieldsIf_load_known (by kernel_rfl) 3 _ rfl (g) (o + k * 97) rfl (.int .i64 nk) (fun w' hw' => HKN.out w' hw')) hH ?_
            simp only [List.setIfInBounds_toArray, List.set_cons_zero, List.set_cons_succ]
            refine wpAnyH_take_ex (i := 6) 70 rfl rfl (by kernel_rfl) (by kernel_rfl) (by kernel_rfl) (fun _ _ _ _ h => h) (by kernel_rfl) hH ?_
            apply Exists.intro
            apply And.intro
            ·intro w9 _
             go_simp
             first | done | rfl
            simp only [List.setIfInBounds_toArray, List.set_cons_zero, List.set_cons_succ]
            refine wpAnyH_take_at (i := 7) 71 (.int .i64 y) rfl rfl (by kernel_rfl) (by kernel_rfl) (by kernel_rfl) (fun _ _ _ h => h) (yieldsIf_load_known (by kernel_rfl) 3 _ rfl (lb) (0) rfl (.int .i64 y) (fun w' hw' => HYN.out w' hw')) hH ?_
            simp only [List.setIfInBounds_toArray, List.set_cons_zero, List.set_cons_succ]
            refine wpAnyH_take_ex (i := 8) 72 rfl rfl (by kernel_rfl) (by kernel_rfl) (by kernel_rfl) (fun _ _ _ _ h => h) (by kernel_rfl) hH ?_
            apply Exists.intro
            apply And.intro
            ·intro w9 _
             go_simp
             first | done | rfl
            simp only [List.setIfInBounds_toArray, List.set_cons_zero, List.set_cons_succ]
            refine wpAnyH_done (by kernel_rfl) ?_ _
            refine NoPanic.normal ?_
            go_wp2
            go_roundw
            case rel => exact ⟨k + 1, by simp, Lib.hid HLK.out, Lib.hid (fun j hj => by
             rcases Nat.lt_or_ge j k with h | h
             ·exact HNE.out j h
             ·obtain rfl : j = k := by omega
              rw [← HNK.out]
              exact HE.out), T4, L4, K4⟩
            case measure => have := HLK.out; simp [RowKit.intOf]; omega
          ·have hlki : ¬ (k : Int) < (i : Int) := by omega
           have hky : k = i := by have := hk.out; omega
           have HAN := Lib.hid (Tt.any_no (L := L) (i := i) (y := y) (by rw [← hky]; exact HNE.out))
           clear hlk hky hk
           go_wp2
           clear hlki
           go_roundw
           case rel => exact ⟨i + 1, by simp, y :: M, Lib.hid HLT.out, Lib.hid (by
            rw [HST.out, Tt.leavesOk, if_neg (by rw [HZ.out]; exact Bool.false_ne_true), ← HY.out, decide_eq_true (show 1 ≤ y by have := H9.out; omega), decide_eq_true (show y ≤ 64 by have := H8.out; omega), HME.out y (by have := H9.out; omega), HAN.out]
            rfl), Lib.hid (fun z hz => by
            rw [← HNX.out z hz, ← HME.out z hz, List.contains_cons, ← HY.out, Bool.or_comm]
            congr 1
            rw [Bool.eq_iff_iff, beq_iff_eq, beq_iff_eq]
            exact eq_comm), T3, K3⟩
           case measure => have := HLT.out; simp [RowKit.intOf]; omega
     ·have hnl : ¬ (i : Int) < (ln : Int) := by omega
      have HLO : Hid (Tt.leavesOk [] L = true) := Lib.hid (by
       rw [HEQ.out, List.drop_of_length_le (by have := hi.out; rw [← HLN.out]; omega)]
       rfl)
      clear hlt hi HEQ HME
      have t1 := two_cell1 HTB.out
      go_wp2
      clear hnl t1
      go_loopw [7] (fun s7 wr => ∃ i : Nat, s7 = .int .i64 (i : Int) ∧ Hid (i ≤ pn) ∧ Hid (Tt.parentsOk L 0 P = Tt.parentsOk L i (P.drop i)) ∧ Hid (wr.heap[tb]? = some (.cells #[.slice ad ln c, .slice pad pn pc] 27 (0, 0))) ∧ Hid (Kept w.heap.size w.heap.size w wr)) (fun s7 _ => pn - (RowKit.intOf s7).toNat)
      case atStart => exact ⟨0, rfl, Lib.hid (Nat.zero_le _), Lib.hid rfl, HTB, HK⟩
      case round =>
       clear HTB HK
       obtain ⟨i, rfl, hi, HEQ, HTB, HK⟩ := hrel
       have t1 := two_cell1 HTB.out
       by_cases hlt : i < pn
       ·have hiL : i < P.length := by rw [← HPN.out]; exact hlt
        obtain ⟨rfl, hg, hok, sl, hr, hns⟩ := HPC.out i hiL
        obtain ⟨sad, sc, sg, so, rfl, hsc⟩ := hns
        have hlti : (i : Int) < (pn : Int) := by omega
        have hi0 : ¬ (i : Int) < 0 := by omega
        have hst : Tt.parentsOk L 0 P = Tt.parentsOk L i (P[i] :: P.drop (i + 1)) := by rw [HEQ.out, List.drop_eq_getElem_cons hiL]
        have hlo := HPL.out _ (List.getElem_mem hiL)
        have HLA := Lib.hid (run_loadVar_mid wr pg (po + i * 66) 75 (P[i].cells (.slice sad P[i].loose.length sc)) _ (rangeAt_kept HK.out hr hg (Nat.ne_of_lt hg)) Tryz.underlying75 rfl (by have := parentInfo (Pr.size hok (.slice sad P[i].loose.length sc)); simpa using this))
        clear hr
        generalize P[i] = p at hst HLA hok hsc hlo
        have HSC := Lib.hid hsc
        have HLT := Lib.hid hlt
        have HOK := Lib.hid hok
        have HLO1 := Lib.hid hlo
        have HST := Lib.hid hst
        obtain ⟨qn, hqn⟩ : ∃ qn, qn = p.loose.length := ⟨_, rfl⟩
        rw [← hqn] at HLA
        have HQN := Lib.hid hqn
        have hqn9 : (qn : Int) ≤ 1000 := by omega
        have HSZ := Lib.hid (parentInfo (Pr.size hok (.slice sad qn sc)))
        have HS0 := Lib.hid (show (Pr.zero.cells (.slice none 0 0)).toArray.size = (p.cells (.slice sad qn sc)).toArray.size by rw [Pr.size hok, Pr.size Pr.zero_ok])
        have HAL := Lib.hid (p.all sad qn sc)
        obtain ⟨D, hD⟩ : ∃ D, D = (p.cells (.slice sad qn sc)).toArray := ⟨_, rfl⟩
        have HD := Lib.hid hD
        rw [← hD] at HLA HSZ HS0 HAL
        obtain ⟨Z, hZ⟩ : ∃ Z, Z = (Pr.zero.cells (.slice none 0 0)).toArray := ⟨_, rfl⟩
        rw [← hZ] at HS0
        have HAZ := Lib.hid (fun w => show (Instr.alloc 75 true (.tuple #[])).run Tryz.prog w = .ok (.pointer (some ⟨w.heap.size, 0, none⟩)) (w.alloc (.cells Z 75)) by rw [hZ]; exact alloc_parent w)
        clear hst hok hlt hi hg hD hZ hiL hlo hqn hsc
        go_upto_region 19 with fail
        refine wp_region_lit ?_
        refine @BigFrame.wpList_want _ _ _ _ _ _ _ ?hw14132 ?_
        case hw14132 => kernel_rfl
        intro K hK
        go_simp
        refine hK _ _ ?_
        clear hK K
        refine @BigFrame.wpList_want _ _ _ _ _ _ _ ?hw14133 ?_
        case hw14133 => kernel_rfl
        intro K hK
        go_simp
        refine hK _ _ ?_
        clear hK K
        refine @BigFrame.wpList_want _ _ _ _ _ _ _ ?hw14134 ?_
        case hw14134 => kernel_rfl
        intro K hK
        go_simp
        refine hK _ _ ?_
        clear hK K
        refine @BigFrame.wpList_want _ _ _ _ _ _ _ ?hw14135 ?_
        case hw14135 => kernel_rfl
        intro K hK
        go_simp
        refine hK _ _ ?_
        clear hK K
        refine @wpList_load_known _ _ _ _ _ _ _ ?hw14136 75 (.tmp 83) rfl (pg) (po + i * 66) rfl (.agg D) (HLA.out) ?_
        case hw14136 => kernel_rfl
        simp only [Act.put, List.setIfInBounds_toArray, List.set_cons_zero, List.set_cons_succ]
        refine @wpL_alloc _ _ _ _ _ _ _ _ ?hw14137 75 rfl _ (HAZ.out _) ?_
        case hw14137 => kernel_rfl
        simp only [Act.put, List.setIfInBounds_toArray, List.set_cons_zero, List.set_cons_succ]
        refine wpList_store_row rfl 75 _ _ rfl (wr.heap.size) D rfl rfl 75 Z (heap_new _ _) (HSZ.out) (HS0.out) (HAL.out) ?_
        simp only [Act.put]
        rw [World.setRow_alloc_new]
        clear t1
        have kk : Kept wr.heap.size wr.heap.size wr (wr.alloc (.cells D 75)) := (Kept.refl _ _ _).alloc (Nat.le_refl _) _
        have K2 := Lib.hid (HK.out.next1 kk)
        have T2 := Lib.hid ((kk.block tb (lt_of_block HTB.out) (Nat.ne_of_lt (lt_of_block HTB.out))).trans HTB.out)
        have L2 := Lib.hid (heap_new wr (.cells D 75))
        clear kk
        generalize wr.alloc (.cells D 75) = w2 at K2 T2 L2 ⊢
        obtain ⟨lb, hlb⟩ : ∃ lb, lb = wr.heap.size := ⟨_, rfl⟩
        rw [← hlb] at L2 ⊢
        clear hlb
        rw [HD.out] at L2
        have c0 := pr_cell0 L2.out
        have c65 := pr_loose HOK.out L2.out
        obtain ⟨st, hst⟩ : ∃ st, st = p.set := ⟨_, rfl⟩
        rw [← hst] at c0
        have HSE := Lib.hid hst
        clear hst
        cases st with
        | true =>
         have HX : Hid (Tt.parentOk L i p = Tt.looseOk L (Bo.Behind (ln : Int) ((2 * i + 1 : Nat) : Int)) (Bo.First (ln : Int) ((2 * i + 1 : Nat) : Int)) p.loose) := Lib.hid (by rw [Tt.parentOk, ← HSE.out, if_pos rfl, HLN.out])
         go_upto_region 20 with fail
         refine wp_region_lit ?_
         refine @BigFrame.wpList_want _ _ _ _ _ _ _ ?hw14138 ?_
         case hw14138 => kernel_rfl
         intro K hK
         go_simp
         refine hK _ _ ?_
         clear hK K
         refine @BigFrame.wpList_want _ _ _ _ _ _ _ ?hw14139 ?_
         case hw14139 => kernel_rfl
         intro K hK
         go_simp
         refine hK _ _ ?_
         clear hK K
         refine @BigFrame.wpList_want _ _ _ _ _ _ _ ?hw14140 ?_
         case hw14140 => kernel_rfl
         intro K hK
         go_simp
         refine hK _ _ ?_
         clear hK K
         refine @BigFrame.wpList_want _ _ _ _ _ _ _ ?hw14141 ?_
         case hw14141 => kernel_rfl
         intro K hK
         go_simp
         refine hK _ _ ?_
         clear hK K
         refine @wpList_skip _ _ _ _ _ _ _ ?hw14142 ?_
         case hw14142 => kernel_rfl
         simp only [Act.put, List.setIfInBounds_toArray, List.set_cons_zero, List.set_cons_succ]
         refine @wpList_skip _ _ _ _ _ _ _ ?hw14143 ?_
         case hw14143 => kernel_rfl
         simp only [Act.put, List.setIfInBounds_toArray, List.set_cons_zero, List.set_cons_succ]
         refine @wpList_skip _ _ _ _ _ _ _ ?hw14144 ?_
         case hw14144 => kernel_rfl
         simp only [Act.put, List.setIfInBounds_toArray, List.set_cons_zero, List.set_cons_succ]
         refine @wpList_skip _ _ _ _ _ _ _ ?hw14145 ?_
         case hw14145 => kernel_rfl
         simp only [Act.put, List.setIfInBounds_toArray, List.set_cons_zero, List.set_cons_succ]
         refine @wpList_skip _ _ _ _ _ _ _ ?hw14146 ?_
         case hw14146 => kernel_rfl
         simp only [Act.put, List.setIfInBounds_toArray, List.set_cons_zero, List.set_cons_succ]
         refine @wpList_skip _ _ _ _ _ _ _ ?hw14147 ?_
         case hw14147 => kernel_rfl
         simp only [Act.put, List.setIfInBounds_toArray, List.set_cons_zero, List.set_cons_succ]
         refine @wpList_skip _ _ _ _ _ _ _ ?hw14148 ?_
         case hw14148 => kernel_rfl
         simp only [Act.put, List.setIfInBounds_toArray, List.set_cons_zero, List.set_cons_succ]
         refine @wpList_skip _ _ _ _ _ _ _ ?hw14149 ?_
         case hw14149 => kernel_rfl
         simp only [Act.put, List.setIfInBounds_toArray, List.set_cons_zero, List.set_cons_succ]
         refine @wpList_skip _ _ _ _ _ _ _ ?hw14150 ?_
         case hw14150 => kernel_rfl
         simp only [Act.put, List.setIfInBounds_toArray, List.set_cons_zero, List.set_cons_succ]
         refine @wpList_skip _ _ _ _ _ _ _ ?hw14151 ?_
         case hw14151 => kernel_rfl
         simp only [Act.put, List.setIfInBounds_toArray, List.set_cons_zero, List.set_cons_succ]
         refine @wpList_skip _ _ _ _ _ _ _ ?hw14152 ?_
         case hw14152 => kernel_rfl
         simp only [Act.put, List.setIfInBounds_toArray, List.set_cons_zero, List.set_cons_succ]
         refine @wpList_skip _ _ _ _ _ _ _ ?hw14153 ?_
         case hw14153 => kernel_rfl
         simp only [Act.put, List.setIfInBounds_toArray, List.set_cons_zero, List.set_cons_succ]
         refine @wpList_skip _ _ _ _ _ _ _ ?hw14154 ?_
         case hw14154 => kernel_rfl
         simp only [Act.put, List.setIfInBounds_toArray, List.set_cons_zero, List.set_cons_succ]
         refine @wpList_skip _ _ _ _ _ _ _ ?hw14155 ?_
         case hw14155 => kernel_rfl
         simp only [Act.put, List.setIfInBounds_toArray, List.set_cons_zero, List.set_cons_succ]
         refine @wpList_skip _ _ _ _ _ _ _ ?hw14156 ?_
         case hw14156 => kernel_rfl
         simp only [Act.put, List.setIfInBounds_toArray, List.set_cons_zero, List.set_cons_succ]
         refine @wpList_skip _ _ _ _ _ _ _ ?hw14157 ?_
         case hw14157 => kernel_rfl
         simp only [Act.put, List.setIfInBounds_toArray, List.set_cons_zero, List.set_cons_succ]
         refine @BigFrame.wpList_want _ _ _ _ _ _ _ ?hw14158 ?_
         case hw14158 => kernel_rfl
         intro K hK
         go_simp
         refine hK _ _ ?_
         clear hK K
         clear c0 c65
         have hbd := Bo.bounds ln ((2 * i + 1 : Nat) : Int)
         obtain ⟨F, hF⟩ : ∃ F, F = Bo.First (ln : Int) ((2 * i + 1 : Nat) : Int) := ⟨_, rfl⟩
         obtain ⟨B, hB⟩ : ∃ B, B = Bo.Behind (ln : Int) ((2 * i + 1 : Nat) : Int) := ⟨_, rfl⟩
         rw [← hF, ← hB] at HX hbd
         have HRH : Hid (∀ (x : Int) (w : World), Calls Tryz.prog 43 #[.int .i64 (ln : Int), .int .i64 ((2 * i + 1 : Nat) : Int), .int .i64 x] w fun e w' => e = .returned (.bool (decide (F ≤ x) && decide (x < B))) ∧ w' = w) := Lib.hid (fun x w => by rw [hF, hB]; exact rholds_calls _ _ x w)
         have hii : (i : Int) ≤ 64 := by have := HLT.out; omega
         have hxi : IntKind.i64.wrap (IntKind.i64.wrap (2 * (i : Int)) + 1) = ((2 * i + 1 : Nat) : Int) := by
          rw [show IntKind.i64.wrap (2 * (i : Int)) = 2 * (i : Int) by rw [IntKind.wrap_i64]; omega, IntKind.wrap_i64]
          omega
         have HXI := Lib.hid hxi
         have HF0 := Lib.hid hbd.1
         have HBN := Lib.hid hbd.2
         clear hbd hF hB hxi hii
         go_wp2
         go_loopw [9] (fun s9 wr => ∃ k : Nat, s9 = .int .i64 (k : Int) ∧ ∃ fr : Int, Hid (k ≤ qn) ∧ Hid (Tt.looseOk L B F p.loose = Tt.looseOk L B fr (p.loose.drop k)) ∧ Hid (F ≤ fr ∧ (k = 0 → fr = F) ∧ ∀ j (hj : j < p.loose.length), k = j + 1 → fr = p.loose[j] + 1) ∧ Hid (wr.heap[tb]? = some (.cells #[.slice ad ln c, .slice (some ⟨pg, po, none⟩) pn pc] 27 (0, 0))) ∧ Hid (wr.heap[lb]? = some (.cells (p.cells (.slice sad qn sc)).toArray 75 (0, 0))) ∧ Hid (Kept w.heap.size w.heap.size w wr)) (fun s9 _ => qn - (RowKit.intOf s9).toNat)
         case atStart => exact ⟨0, rfl, F, Lib.hid (Nat.zero_le _), Lib.hid rfl, Lib.hid ⟨Int.le_refl _, fun _ => rfl, fun j _ h => by omega⟩, T2, L2, K2⟩
         case round =>
          clear T2 L2 K2
          obtain ⟨k, rfl, fr, hk, HLQ, HFR, T3, L3, K3⟩ := hrel
          have c65 := pr_loose HOK.out L3.out
          by_cases hlt : k < qn
          ·have hkL : k < p.loose.length := by rw [← HQN.out]; exact hlt
           obtain ⟨rfl, hg, hx⟩ := HSC.out k hkL
           have hlti : (k : Int) < (qn : Int) := by omega
           have hk0 : ¬ (k : Int) < 0 := by omega
           have hcx := (K3.out.cell (p := ⟨sg, so + k, none⟩) hg (Nat.ne_of_lt hg)).trans hx
           have HSQ : Hid (Tt.looseOk L B F p.loose = Tt.looseOk L B fr (p.loose[k] :: p.loose.drop (k + 1))) := Lib.hid (by rw [HLQ.out, List.drop_eq_getElem_cons hkL])
           have HPV : Hid (0 < k → ∃ pv : Int, fr = pv + 1 ∧ wr.cell? ⟨sg, so + (k - 1), none⟩ = some (.int .i64 pv)) := Lib.hid (fun h => ⟨p.loose[k - 1], HFR.out.2.2 (k - 1) (by omega) (by omega), (K3.out.cell (p := ⟨sg, so + (k - 1), none⟩) hg (Nat.ne_of_lt hg)).trans (HSC.out (k - 1) (by omega)).2.2⟩)
           have HNX : Hid (∀ j (hj : j < p.loose.length), k + 1 = j + 1 → p.loose[k] + 1 = p.loose[j] + 1) := Lib.hid (fun j hj h => by
            obtain rfl : k = j := by omega
            rfl)
           obtain ⟨x, hxk⟩ : ∃ x, x = p.loose[k] := ⟨_, rfl⟩
           rw [← hxk] at hcx HSQ HNX
           have HLK := Lib.hid hlt
           have t0 := two_cell0 T3.out
           clear hxk hx hkL hg hk hlt
           go_upto_region 26 with fail
           by_cases hh : F ≤ x ∧ x < B
           ·have HH := Lib.hid hh
            have HRX : Hid (∀ w, Calls Tryz.prog 43 #[.int .i64 (ln : Int), .int .i64 ((2 * i + 1 : Nat) : Int), .int .i64 x] w fun e w' => e = .returned (.bool true) ∧ w' = w) := Lib.hid (fun w => by
             have := HRH.out x w
             rw [decide_eq_true hh.1, decide_eq_true hh.2] at this
             exact this)
            clear hh
            obtain ⟨px, rfl⟩ : ∃ px : Nat, x = (px : Int) := ⟨x.toNat, by have := HF0.out; have := HH.out.1; omega⟩
            have hpl : px < L.length := by have := HBN.out; have := HLN.out; have := HH.out.2; omega
            obtain ⟨rfl, hg2, hok2, hr2⟩ := HC.out px hpl
            have hpxi : (px : Int) < (ln : Int) := by have := HLN.out; omega
            have hpx0 : ¬ (px : Int) < 0 := by omega
            have hcn0 : w.cell? ⟨g, o + px * 97, none⟩ = some (.int .i64 L[px].name) := hr2 0 _ (by simp [Lf.cells])
            have hcn := (K3.out.cell (p := ⟨g, o + px * 97, none⟩) hg2 (Nat.ne_of_lt hg2)).trans hcn0
            rw [← Tt.nameAt_eq hpl] at hcn
            obtain ⟨nm, hnm⟩ : ∃ nm, nm = Tt.nameAt L (px : Int) := ⟨_, rfl⟩
            rw [← hnm] at hcn
            have HNM := Lib.hid hnm
            clear hnm hcn0 hr2 hok2 hg2 hpl
            by_cases hz : nm = 0
            ·have hzb : (nm == 0) = true := by rw [beq_iff_eq]; exact hz
             have HZB := Lib.hid hzb
             clear hz
             refine wp_region_lit ?_
             refine @BigFrame.wpList_want _ _ _ _ _ _ _ ?hw14189 ?_
             case hw14189 => kernel_rfl
             intro K hK
             go_simp
             refine hK _ _ ?_
             clear hK K
             refine @BigFrame.wpList_want _ _ _ _ _ _ _ ?hw14190 ?_
             case hw14190 => kernel_rfl
             intro K hK
             go_simp
             refine hK _ _ ?_
             clear hK K
             refine @BigFrame.wpList_want _ _ _ _ _ _ _ ?hw14191 ?_
             case hw14191 => kernel_rfl
             intro K hK
             go_simp
             refine hK _ _ ?_
             clear hK K
             refine @BigFrame.wpList_want _ _ _ _ _ _ _ ?hw14192 ?_
             case hw14192 => kernel_rfl
             intro K hK
             go_simp
             refine hK _ _ ?_
             clear hK K
             refine @BigFrame.wpList_want _ _ _ _ _ _ _ ?hw14193 ?_
             case hw14193 => kernel_rfl
             intro K hK
             go_simp
             refine hK _ _ ?_
             clear hK K
             refine @BigFrame.wpList_want _ _ _ _ _ _ _ ?hw14194 ?_
             case hw14194 => kernel_rfl
             intro K hK
             go_simp
             go_at_call 43
             (try rw [HXI.out])
             refine (HRX.out _).mono ?_
             rintro e w9 ⟨rfl, hw9⟩
             subst w9
             refine hK _ _ ?_
             clear hK K
             refine @BigFrame.wpList_want _ _ _ _ _ _ _ ?hw14195 ?_
             case hw14195 => kernel_rfl
             intro K hK
             go_simp
             refine hK _ _ ?_
             clear hK K
             refine @BigFrame.wpList_want _ _ _ _ _ _ _ ?hw14196 ?_
             case hw14196 => kernel_rfl
             intro K hK
             go_simp
             refine hK _ _ ?_
             clear hK K
             refine @BigFrame.wpList_want _ _ _ _ _ _ _ ?hw14197 ?_
             case hw14197 => kernel_rfl
             intro K hK
             go_simp
             refine hK _ _ ?_
             clear hK K
             refine @BigFrame.wpList_want _ _ _ _ _ _ _ ?hw14198 ?_
             case hw14198 => kernel_rfl
             intro K hK
             go_simp
             refine hK _ _ ?_
             clear hK K
             refine @BigFrame.wpList_want _ _ _ _ _ _ _ ?hw14199 ?_
             case hw14199 => kernel_rfl
             intro K hK
             go_simp
             refine hK _ _ ?_
             clear hK K
             refine @BigFrame.wpList_want _ _ _ _ _ _ _ ?hw14200 ?_
             case hw14200 => kernel_rfl
             intro K hK
             go_simp
             refine hK _ _ ?_
             clear hK K
             refine @BigFrame.wpList_want _ _ _ _ _ _ _ ?hw14201 ?_
             case hw14201 => kernel_rfl
             intro K hK
             go_simp
             refine hK _ _ ?_
             clear hK K
             refine @BigFrame.wpList_want _ _ _ _ _ _ _ ?hw14202 ?_
             case hw14202 => kernel_rfl
             intro K hK
             go_simp
             refine hK _ _ ?_
             clear hK K
             refine @BigFrame.wpList_want _ _ _ _ _ _ _ ?hw14203 ?_
             case hw14203 => kernel_rfl
             intro K hK
             go_simp
             refine hK _ _ ?_
             clear hK K
             refine @BigFrame.wpList_want _ _ _ _ _ _ _ ?hw14204 ?_
             case hw14204 => kernel_rfl
             intro K hK
             go_simp
             refine hK _ _ ?_
             clear hK K
             refine @BigFrame.wpList_want _ _ _ _ _ _ _ ?hw14205 ?_
             case hw14205 => kernel_rfl
             intro K hK
             go_simp
             refine hK _ _ ?_
             clear hK K
             refine @wpList_skip _ _ _ _ _ _ _ ?hw14206 ?_
             case hw14206 => kernel_rfl
             simp only [Act.put, List.setIfInBounds_toArray, List.set_cons_zero, List.set_cons_succ]
             refine @wpList_skip _ _ _ _ _ _ _ ?hw14207 ?_
             case hw14207 => kernel_rfl
             simp only [Act.put, List.setIfInBounds_toArray, List.set_cons_zero, List.set_cons_succ]
             refine @wpList_skip _ _ _ _ _ _ _ ?hw14208 ?_
             case hw14208 => kernel_rfl
             simp only [Act.put, List.setIfInBounds_toArray, List.set_cons_zero, List.set_cons_succ]
             refine @wpList_skip _ _ _ _ _ _ _ ?hw14209 ?_
             case hw14209 => kernel_rfl
             simp only [Act.put, List.setIfInBounds_toArray, List.set_cons_zero, List.set_cons_succ]
             refine @wpList_skip _ _ _ _ _ _ _ ?hw14210 ?_
             case hw14210 => kernel_rfl
             simp only [Act.put, List.setIfInBounds_toArray, List.set_cons_zero, List.set_cons_succ]
             refine @wpList_skip _ _ _ _ _ _ _ ?hw14211 ?_
             case hw14211 => kernel_rfl
             simp only [Act.put, List.setIfInBounds_toArray, List.set_cons_zero, List.set_cons_succ]
             refine @wpList_skip _ _ _ _ _ _ _ ?hw14212 ?_
             case hw14212 => kernel_rfl
             simp only [Act.put, List.setIfInBounds_toArray, List.set_cons_zero, List.set_cons_succ]
             refine @wpList_skip _ _ _ _ _ _ _ ?hw14213 ?_
             case hw14213 => kernel_rfl
             simp only [Act.put, List.setIfInBounds_toArray, List.set_cons_zero, List.set_cons_succ]
             refine @wpList_skip _ _ _ _ _ _ _ ?hw14214 ?_
             case hw14214 => kernel_rfl
             simp only [Act.put, List.setIfInBounds_toArray, List.set_cons_zero, List.set_cons_succ]
             refine @wpList_skip _ _ _ _ _ _ _ ?hw14215 ?_
             case hw14215 => kernel_rfl
             simp only [Act.put, List.setIfInBounds_toArray, List.set_cons_zero, List.set_cons_succ]
             refine @wpList_skip _ _ _ _ _ _ _ ?hw14216 ?_
             case hw14216 => kernel_rfl
             simp only [Act.put, List.setIfInBounds_toArray, List.set_cons_zero, List.set_cons_succ]
             refine @wpList_skip _ _ _ _ _ _ _ ?hw14217 ?_
             case hw14217 => kernel_rfl
             simp only [Act.put, List.setIfInBounds_toArray, List.set_cons_zero, List.set_cons_succ]
             refine @BigFrame.wpList_want _ _ _ _ _ _ _ ?hw14218 ?_
             case hw14218 => kernel_rfl
             intro K hK
             go_simp
             refine hK _ _ ?_
             clear hK K
             clear c65 t0 hlti hk0 hcx
             clear hpxi hpx0 hcn hzb
             go_wp2
             go_ret
             refine ⟨?_, K3.out⟩
             have hf : Tt.right L P = false := by
              have hq : Tt.looseOk L B F p.loose = false := by
               rw [HSQ.out]
               unfold Tt.looseOk
               rw [← HNM.out, HZB.out]
               simp
              have hl : Tt.parentsOk L 0 P = false := by
               rw [HST.out, Tt.parentsOk, HX.out, hq]; rfl
              rw [HRT.out, hl]; simp
             rw [hf]; rfl
            ·have hzb : (nm == 0) = false := by rw [beq_eq_false_iff_ne]; exact hz
             have HZB := Lib.hid hzb
             clear hz
             by_cases hkz : 0 < k
             ·have hkz1 : (k : Int) > 0 := by omega
              obtain ⟨pv, hpv, hcp⟩ := HPV.out hkz
              obtain ⟨km, hkm⟩ : ∃ km, km = k - 1 := ⟨_, rfl⟩
              rw [← hkm] at hcp
              have hwk : IntKind.i64.wrap ((k : Int) - 1) = (km : Int) := by rw [IntKind.wrap_i64]; omega
              have hkm1 : (km : Int) < (qn : Int) := by omega
              have hkm0 : ¬ (km : Int) < 0 := by omega
              have HPW := Lib.hid hpv
              clear hkm hpv
              by_cases hge : pv ≥ (px : Int)
              ·have HGE := Lib.hid hge
               refine wp_region_lit ?_
               refine @BigFrame.wpList_want _ _ _ _ _ _ _ ?hw14219 ?_
               case hw14219 => kernel_rfl
               intro K hK
               go_simp
               refine hK _ _ ?_
               clear hK K
               refine @BigFrame.wpList_want _ _ _ _ _ _ _ ?hw14220 ?_
               case hw14220 => kernel_rfl
               intro K hK
               go_simp
               refine hK _ _ ?_
               clear hK K
               refine @BigFrame.wpList_want _ _ _ _ _ _ _ ?hw14221 ?_
               case hw14221 => kernel_rfl
               intro K hK
               go_simp
               refine hK _ _ ?_
               clear hK K
               refine @BigFrame.wpList_want _ _ _ _ _ _ _ ?hw14222 ?_
               case hw14222 => kernel_rfl
               intro K hK
               go_simp
               refine hK _ _ ?_
               clear hK K
               refine @BigFrame.wpList_want _ _ _ _ _ _ _ ?hw14223 ?_
               case hw14223 => kernel_rfl
               intro K hK
               go_simp
               refine hK _ _ ?_
               clear hK K
               refine @BigFrame.wpList_want _ _ _ _ _ _ _ ?hw14224 ?_
               case hw14224 => kernel_rfl
               intro K hK
               go_simp
               go_at_call 43
               (try rw [HXI.out])
               refine (HRX.out _).mono ?_
               rintro e w9 ⟨rfl, hw9⟩
               subst w9
               refine hK _ _ ?_
               clear hK K
               refine @BigFrame.wpList_want _ _ _ _ _ _ _ ?hw14225 ?_
               case hw14225 => kernel_rfl
               intro K hK
               go_simp
               refine hK _ _ ?_
               clear hK K
               refine @BigFrame.wpList_want _ _ _ _ _ _ _ ?hw14226 ?_
               case hw14226 => kernel_rfl
               intro K hK
               go_simp
               refine hK _ _ ?_
               clear hK K
               refine @BigFrame.wpList_want _ _ _ _ _ _ _ ?hw14227 ?_
               case hw14227 => kernel_rfl
               intro K hK
               go_simp
               refine hK _ _ ?_
               clear hK K
               refine @BigFrame.wpList_want _ _ _ _ _ _ _ ?hw14228 ?_
               case hw14228 => kernel_rfl
               intro K hK
               go_simp
               refine hK _ _ ?_
               clear hK K
               refine @BigFrame.wpList_want _ _ _ _ _ _ _ ?hw14229 ?_
               case hw14229 => kernel_rfl
               intro K hK
               go_simp
               refine hK _ _ ?_
               clear hK K
               refine @BigFrame.wpList_want _ _ _ _ _ _ _ ?hw14230 ?_
               case hw14230 => kernel_rfl
               intro K hK
               go_simp
               refine hK _ _ ?_
               clear hK K
               refine @BigFrame.wpList_want _ _ _ _ _ _ _ ?hw14231 ?_
               case hw14231 => kernel_rfl
               intro K hK
               go_simp
               refine hK _ _ ?_
               clear hK K
               refine @BigFrame.wpList_want _ _ _ _ _ _ _ ?hw14232 ?_
               case hw14232 => kernel_rfl
               intro K hK
               go_simp
               refine hK _ _ ?_
               clear hK K
               refine @BigFrame.wpList_want _ _ _ _ _ _ _ ?hw14233 ?_
               case hw14233 => kernel_rfl
               intro K hK
               go_simp
               refine hK _ _ ?_
               clear hK K
               refine @BigFrame.wpList_want _ _ _ _ _ _ _ ?hw14234 ?_
               case hw14234 => kernel_rfl
               intro K hK
               go_simp
               refine hK _ _ ?_
               clear hK K
               refine @BigFrame.wpList_want _ _ _ _ _ _ _ ?hw14235 ?_
               case hw14235 => kernel_rfl
               intro K hK
               go_simp
               refine hK _ _ ?_
               clear hK K
               refine @BigFrame.wpList_want _ _ _ _ _ _ _ ?hw14236 ?_
               case hw14236 => kernel_rfl
               intro K hK
               go_simp
               refine hK _ _ ?_
               clear hK K
               refine @BigFrame.wpList_want _ _ _ _ _ _ _ ?hw14237 ?_
               case hw14237 => kernel_rfl
               intro K hK
               go_simp
               refine hK _ _ ?_
               clear hK K
               refine @BigFrame.wpList_want _ _ _ _ _ _ _ ?hw14238 ?_
               case hw14238 => kernel_rfl
               intro K hK
               go_simp
               refine hK _ _ ?_
               clear hK K
               refine @BigFrame.wpList_want _ _ _ _ _ _ _ ?hw14239 ?_
               case hw14239 => kernel_rfl
               intro K hK
               go_simp
               refine hK _ _ ?_
               clear hK K
               refine @BigFrame.wpList_want _ _ _ _ _ _ _ ?hw14240 ?_
               case hw14240 => kernel_rfl
               intro K hK
               go_simp
               refine hK _ _ ?_
               clear hK K
               refine @BigFrame.wpList_want _ _ _ _ _ _ _ ?hw14241 ?_
               case hw14241 => kernel_rfl
               intro K hK
               go_simp
               refine hK _ _ ?_
               clear hK K
               refine @BigFrame.wpList_want _ _ _ _ _ _ _ ?hw14242 ?_
               case hw14242 => kernel_rfl
               intro K hK
               go_simp
               refine hK _ _ ?_
               clear hK K
               refine @BigFrame.wpList_want _ _ _ _ _ _ _ ?hw14243 ?_
               case hw14243 => kernel_rfl
               intro K hK
               go_simp
               refine hK _ _ ?_
               clear hK K
               refine @BigFrame.wpList_want _ _ _ _ _ _ _ ?hw14244 ?_
               case hw14244 => kernel_rfl
               intro K hK
               go_simp
               refine hK _ _ ?_
               clear hK K
               refine @BigFrame.wpList_want _ _ _ _ _ _ _ ?hw14245 ?_
               case hw14245 => kernel_rfl
               intro K hK
               go_simp
               refine hK _ _ ?_
               clear hK K
               refine @BigFrame.wpList_want _ _ _ _ _ _ _ ?hw14246 ?_
               case hw14246 => kernel_rfl
               intro K hK
               go_simp
               refine hK _ _ ?_
               clear hK K
               refine @BigFrame.wpList_want _ _ _ _ _ _ _ ?hw14247 ?_
               case hw14247 => kernel_rfl
               intro K hK
               go_simp
               refine hK _ _ ?_
               clear hK K
               refine @BigFrame.wpList_want _ _ _ _ _ _ _ ?hw14248 ?_
               case hw14248 => kernel_rfl
               intro K hK
               go_simp
               refine hK _ _ ?_
               clear hK K
               clear c65 t0 hlti hk0 hcx
               clear hpxi hpx0 hcn hzb
               clear hkz hkz1 hcp hwk hkm1 hkm0 hge
               go_wp2
               go_ret
               refine ⟨?_, K3.out⟩
               have hf : Tt.right L P = false := by
                have hq : Tt.looseOk L B F p.loose = false := by
                 rw [HSQ.out]
                 unfold Tt.looseOk
                 rw [decide_eq_false (show ¬ fr ≤ (px : Int) by have := HGE.out; have := HPW.out; omega)]
                 rfl
                have hl : Tt.parentsOk L 0 P = false := by
                 rw [HST.out, Tt.parentsOk, HX.out, hq]; rfl
                rw [HRT.out, hl]; simp
               rw [hf]; rfl
              ·have HGE := Lib.hid (show fr ≤ (px : Int) by have := HPW.out; omega)
               refine wp_region_lit ?_
               refine @BigFrame.wpList_want _ _ _ _ _ _ _ ?hw14249 ?_
               case hw14249 => kernel_rfl
               intro K hK
               go_simp
               refine hK _ _ ?_
               clear hK K
               refine @BigFrame.wpList_want _ _ _ _ _ _ _ ?hw14250 ?_
               case hw14250 => kernel_rfl
               intro K hK
               go_simp
               refine hK _ _ ?_
               clear hK K
               refine @BigFrame.wpList_want _ _ _ _ _ _ _ ?hw14251 ?_
               case hw14251 => kernel_rfl
               intro K hK
               go_simp
               refine hK _ _ ?_
               clear hK K
               refine @BigFrame.wpList_want _ _ _ _ _ _ _ ?hw14252 ?_
               case hw14252 => kernel_rfl
               intro K hK
               go_simp
               refine hK _ _ ?_
               clear hK K
               refine @BigFrame.wpList_want _ _ _ _ _ _ _ ?hw14253 ?_
               case hw14253 => kernel_rfl
               intro K hK
               go_simp
               refine hK _ _ ?_
               clear hK K
               refine @BigFrame.wpList_want _ _ _ _ _ _ _ ?hw14254 ?_
               case hw14254 => kernel_rfl
               intro K hK
               go_simp
               go_at_call 43
               (try rw [HXI.out])
               refine (HRX.out _).mono ?_
               rintro e w9 ⟨rfl, hw9⟩
               subst w9
               refine hK _ _ ?_
               clear hK K
               refine @BigFrame.wpList_want _ _ _ _ _ _ _ ?hw14255 ?_
               case hw14255 => kernel_rfl
               intro K hK
               go_simp
               refine hK _ _ ?_
               clear hK K
               refine @BigFrame.wpList_want _ _ _ _ _ _ _ ?hw14256 ?_
               case hw14256 => kernel_rfl
               intro K hK
               go_simp
               refine hK _ _ ?_
               clear hK K
               refine @BigFrame.wpList_want _ _ _ _ _ _ _ ?hw14257 ?_
               case hw14257 => kernel_rfl
               intro K hK
               go_simp
               refine hK _ _ ?_
               clear hK K
               refine @BigFrame.wpList_want _ _ _ _ _ _ _ ?hw14258 ?_
               case hw14258 => kernel_rfl
               intro K hK
               go_simp
               refine hK _ _ ?_
               clear hK K
               refine @BigFrame.wpList_want _ _ _ _ _ _ _ ?hw14259 ?_
               case hw14259 => kernel_rfl
               intro K hK
               go_simp
               refine hK _ _ ?_
               clear hK K
               refine @BigFrame.wpList_want _ _ _ _ _ _ _ ?hw14260 ?_
               case hw14260 => kernel_rfl
               intro K hK
               go_simp
               refine hK _ _ ?_
               clear hK K
               refine @BigFrame.wpList_want _ _ _ _ _ _ _ ?hw14261 ?_
               case hw14261 => kernel_rfl
               intro K hK
               go_simp
               refine hK _ _ ?_
               clear hK K
               refine @BigFrame.wpList_want _ _ _ _ _ _ _ ?hw14262 ?_
               case hw14262 => kernel_rfl
               intro K hK
               go_simp
               refine hK _ _ ?_
               clear hK K
               refine @BigFrame.wpList_want _ _ _ _ _ _ _ ?hw14263 ?_
               case hw14263 => kernel_rfl
               intro K hK
               go_simp
               refine hK _ _ ?_
               clear hK K
               refine @BigFrame.wpList_want _ _ _ _ _ _ _ ?hw14264 ?_
               case hw14264 => kernel_rfl
               intro K hK
               go_simp
               refine hK _ _ ?_
               clear hK K
               refine @BigFrame.wpList_want _ _ _ _ _ _ _ ?hw14265 ?_
               case hw14265 => kernel_rfl
               intro K hK
               go_simp
               refine hK _ _ ?_
               clear hK K
               refine @BigFrame.wpList_want _ _ _ _ _ _ _ ?hw14266 ?_
               case hw14266 => kernel_rfl
               intro K hK
               go_simp
               refine hK _ _ ?_
               clear hK K
               refine @BigFrame.wpList_want _ _ _ _ _ _ _ ?hw14267 ?_
               case hw14267 => kernel_rfl
               intro K hK
               go_simp
               refine hK _ _ ?_
               clear hK K
               refine @BigFrame.wpList_want _ _ _ _ _ _ _ ?hw14268 ?_
               case hw14268 => kernel_rfl
               intro K hK
               go_simp
               refine hK _ _ ?_
               clear hK K
               refine @BigFrame.wpList_want _ _ _ _ _ _ _ ?hw14269 ?_
               case hw14269 => kernel_rfl
               intro K hK
               go_simp
               refine hK _ _ ?_
               clear hK K
               refine @BigFrame.wpList_want _ _ _ _ _ _ _ ?hw14270 ?_
               case hw14270 => kernel_rfl
               intro K hK
               go_simp
               refine hK _ _ ?_
               clear hK K
               refine @BigFrame.wpList_want _ _ _ _ _ _ _ ?hw14271 ?_
               case hw14271 => kernel_rfl
               intro K hK
               go_simp
               refine hK _ _ ?_
               clear hK K
               refine @BigFrame.wpList_want _ _ _ _ _ _ _ ?hw14272 ?_
               case hw14272 => kernel_rfl
               intro K hK
               go_simp
               refine hK _ _ ?_
               clear hK K
               refine @BigFrame.wpList_want _ _ _ _ _ _ _ ?hw14273 ?_
               case hw14273 => kernel_rfl
               intro K hK
               go_simp
               refine hK _ _ ?_
               clear hK K
               refine @BigFrame.wpList_want _ _ _ _ _ _ _ ?hw14274 ?_
               case hw14274 => kernel_rfl
               intro K hK
               go_simp
               refine hK _ _ ?_
               clear hK K
               refine @BigFrame.wpList_want _ _ _ _ _ _ _ ?hw14275 ?_
               case hw14275 => kernel_rfl
               intro K hK
               go_simp
               refine hK _ _ ?_
               clear hK K
               refine @BigFrame.wpList_want _ _ _ _ _ _ _ ?hw14276 ?_
               case hw14276 => kernel_rfl
               intro K hK
               go_simp
               refine hK _ _ ?_
               clear hK K
               refine @BigFrame.wpList_want _ _ _ _ _ _ _ ?hw14277 ?_
               case hw14277 => kernel_rfl
               intro K hK
               go_simp
               refine hK _ _ ?_
               clear hK K
               refine @BigFrame.wpList_want _ _ _ _ _ _ _ ?hw14278 ?_
               case hw14278 => kernel_rfl
               intro K hK
               go_simp
               refine hK _ _ ?_
               clear hK K
               clear c65 t0 hk0 hcx
               clear hpxi hpx0 hcn hzb
               clear hkz hkz1 hcp hwk hkm1 hkm0 hge
               go_wp2
               go_roundw
               case rel => exact ⟨k + 1, by simp, (px : Int) + 1, Lib.hid HLK.out, Lib.hid (by
                rw [HSQ.out, Tt.looseOk, decide_eq_true HGE.out, decide_eq_true HH.out.2, ← HNM.out, HZB.out]
                rfl), Lib.hid ⟨by have := HH.out.1; omega, fun h => by omega, HNX.out⟩, T3, L3, K3⟩
               case measure => have := HLK.out; simp [RowKit.intOf]; omega
             ·have hkz1 : ¬ (k : Int) > 0 := by omega
              have HGE := Lib.hid (show fr ≤ (px : Int) by have := HFR.out.2.1 (by omega); have := HH.out.1; omega)
              refine wp_region_lit ?_
              refine @BigFrame.wpList_want _ _ _ _ _ _ _ ?hw14279 ?_
              case hw14279 => kernel_rfl
              intro K hK
              go_simp
              refine hK _ _ ?_
              clear hK K
              refine @BigFrame.wpList_want _ _ _ _ _ _ _ ?hw14280 ?_
              case hw14280 => kernel_rfl
              intro K hK
              go_simp
              refine hK _ _ ?_
              clear hK K
              refine @BigFrame.wpList_want _ _ _ _ _ _ _ ?hw14281 ?_
              case hw14281 => kernel_rfl
              intro K hK
              go_simp
              refine hK _ _ ?_
              clear hK K
              refine @BigFrame.wpList_want _ _ _ _ _ _ _ ?hw14282 ?_
              case hw14282 => kernel_rfl
              intro K hK
              go_simp
              refine hK _ _ ?_
              clear hK K
              refine @BigFrame.wpList_want _ _ _ _ _ _ _ ?hw14283 ?_
              case hw14283 => kernel_rfl
              intro K hK
              go_simp
              refine hK _ _ ?_
              clear hK K
              refine @BigFrame.wpList_want _ _ _ _ _ _ _ ?hw14284 ?_
              case hw14284 => kernel_rfl
              intro K hK
              go_simp
              go_at_call 43
              (try rw [HXI.out])
              refine (HRX.out _).mono ?_
              rintro e w9 ⟨rfl, hw9⟩
              subst w9
              refine hK _ _ ?_
              clear hK K
              refine @BigFrame.wpList_want _ _ _ _ _ _ _ ?hw14285 ?_
              case hw14285 => kernel_rfl
              intro K hK
              go_simp
              refine hK _ _ ?_
              clear hK K
              refine @BigFrame.wpList_want _ _ _ _ _ _ _ ?hw14286 ?_
              case hw14286 => kernel_rfl
              intro K hK
              go_simp
              refine hK _ _ ?_
              clear hK K
              refine @BigFrame.wpList_want _ _ _ _ _ _ _ ?hw14287 ?_
              case hw14287 => kernel_rfl
              intro K hK
              go_simp
              refine hK _ _ ?_
              clear hK K
              refine @BigFrame.wpList_want _ _ _ _ _ _ _ ?hw14288 ?_
              case hw14288 => kernel_rfl
              intro K hK
              go_simp
              refine hK _ _ ?_
              clear hK K
              refine @BigFrame.wpList_want _ _ _ _ _ _ _ ?hw14289 ?_
              case hw14289 => kernel_rfl
              intro K hK
              go_simp
              refine hK _ _ ?_
              clear hK K
              refine @BigFrame.wpList_want _ _ _ _ _ _ _ ?hw14290 ?_
              case hw14290 => kernel_rfl
              intro K hK
              go_simp
              refine hK _ _ ?_
              clear hK K
              refine @BigFrame.wpList_want _ _ _ _ _ _ _ ?hw14291 ?_
              case hw14291 => kernel_rfl
              intro K hK
              go_simp
              refine hK _ _ ?_
              clear hK K
              refine @BigFrame.wpList_want _ _ _ _ _ _ _ ?hw14292 ?_
              case hw14292 => kernel_rfl
              intro K hK
              go_simp
              refine hK _ _ ?_
              clear hK K
              refine @BigFrame.wpList_want _ _ _ _ _ _ _ ?hw14293 ?_
              case hw14293 => kernel_rfl
              intro K hK
              go_simp
              refine hK _ _ ?_
              clear hK K
              refine @BigFrame.wpList_want _ _ _ _ _ _ _ ?hw14294 ?_
              case hw14294 => kernel_rfl
              intro K hK
              go_simp
              refine hK _ _ ?_
              clear hK K
              refine @BigFrame.wpList_want _ _ _ _ _ _ _ ?hw14295 ?_
              case hw14295 => kernel_rfl
              intro K hK
              go_simp
              refine hK _ _ ?_
              clear hK K
              refine @BigFrame.wpList_want _ _ _ _ _ _ _ ?hw14296 ?_
              case hw14296 => kernel_rfl
              intro K hK
              go_simp
              refine hK _ _ ?_
              clear hK K
              refine @BigFrame.wpList_want _ _ _ _ _ _ _ ?hw14297 ?_
              case hw14297 => kernel_rfl
              intro K hK
              go_simp
              refine hK _ _ ?_
              clear hK K
              refine @BigFrame.wpList_want _ _ _ _ _ _ _ ?hw14298 ?_
              case hw14298 => kernel_rfl
              intro K hK
              go_simp
              refine hK _ _ ?_
              clear hK K
              refine @wpList_skip _ _ _ _ _ _ _ ?hw14299 ?_
              case hw14299 => kernel_rfl
              simp only [Act.put, List.setIfInBounds_toArray, List.set_cons_zero, List.set_cons_succ]
              refine @wpList_skip _ _ _ _ _ _ _ ?hw14300 ?_
              case hw14300 => kernel_rfl
              simp only [Act.put, List.setIfInBounds_toArray, List.set_cons_zero, List.set_cons_succ]
              refine @wpList_skip _ _ _ _ _ _ _ ?hw14301 ?_
              case hw14301 => kernel_rfl
              simp only [Act.put, List.setIfInBounds_toArray, List.set_cons_zero, List.set_cons_succ]
              refine @wpList_skip _ _ _ _ _ _ _ ?hw14302 ?_
              case hw14302 => kernel_rfl
              simp only [Act.put, List.setIfInBounds_toArray, List.set_cons_zero, List.set_cons_succ]
              refine @wpList_skip _ _ _ _ _ _ _ ?hw14303 ?_
              case hw14303 => kernel_rfl
              simp only [Act.put, List.setIfInBounds_toArray, List.set_cons_zero, List.set_cons_succ]
              refine @wpList_skip _ _ _ _ _ _ _ ?hw14304 ?_
              case hw14304 => kernel_rfl
              simp only [Act.put, List.setIfInBounds_toArray, List.set_cons_zero, List.set_cons_succ]
              refine @wpList_skip _ _ _ _ _ _ _ ?hw14305 ?_
              case hw14305 => kernel_rfl
              simp only [Act.put, List.setIfInBounds_toArray, List.set_cons_zero, List.set_cons_succ]
              refine @wpList_skip _ _ _ _ _ _ _ ?hw14306 ?_
              case hw14306 => kernel_rfl
              simp only [Act.put, List.setIfInBounds_toArray, List.set_cons_zero, List.set_cons_succ]
              refine @BigFrame.wpList_want _ _ _ _ _ _ _ ?hw14307 ?_
              case hw14307 => kernel_rfl
              intro K hK
              go_simp
              refine hK _ _ ?_
              clear hK K
              refine @BigFrame.wpList_want _ _ _ _ _ _ _ ?hw14308 ?_
              case hw14308 => kernel_rfl
              intro K hK
              go_simp
              refine hK _ _ ?_
              clear hK K
              clear c65 t0 hk0 hcx
              clear hpxi hpx0 hcn hzb
              clear hkz hkz1
              go_wp2
              go_roundw
              case rel => exact ⟨k + 1, by simp, (px : Int) + 1, Lib.hid HLK.out, Lib.hid (by
               rw [HSQ.out, Tt.looseOk, decide_eq_true HGE.out, decide_eq_true HH.out.2, ← HNM.out, HZB.out]
               rfl), Lib.hid ⟨by have := HH.out.1; omega, fun h => by omega, HNX.out⟩, T3, L3, K3⟩
              case measure => have := HLK.out; simp [RowKit.intOf]; omega
           ·have HH := Lib.hid hh
            have HRX : Hid (∀ w, Calls Tryz.prog 43 #[.int .i64 (ln : Int), .int .i64 ((2 * i + 1 : Nat) : Int), .int .i64 x] w fun e w' => e = .returned (.bool false) ∧ w' = w) := Lib.hid (fun w => by
             have := HRH.out x w
             rw [show (decide (F ≤ x) && decide (x < B)) = false by rw [Bool.and_eq_false_iff, decide_eq_false_iff_not, decide_eq_false_iff_not]; omega] at this
             exact this)
            clear hh
            refine wp_region_lit ?_
            refine @BigFrame.wpList_want _ _ _ _ _ _ _ ?hw14159 ?_
            case hw14159 => kernel_rfl
            intro K hK
            go_simp
            refine hK _ _ ?_
            clear hK K
            refine @BigFrame.wpList_want _ _ _ _ _ _ _ ?hw14160 ?_
            case hw14160 => kernel_rfl
            intro K hK
            go_simp
            refine hK _ _ ?_
            clear hK K
            refine @BigFrame.wpList_want _ _ _ _ _ _ _ ?hw14161 ?_
            case hw14161 => kernel_rfl
            intro K hK
            go_simp
            refine hK _ _ ?_
            clear hK K
            refine @BigFrame.wpList_want _ _ _ _ _ _ _ ?hw14162 ?_
            case hw14162 => kernel_rfl
            intro K hK
            go_simp
            refine hK _ _ ?_
            clear hK K
            refine @BigFrame.wpList_want _ _ _ _ _ _ _ ?hw14163 ?_
            case hw14163 => kernel_rfl
            intro K hK
            go_simp
            refine hK _ _ ?_
            clear hK K
            refine @BigFrame.wpList_want _ _ _ _ _ _ _ ?hw14164 ?_
            case hw14164 => kernel_rfl
            intro K hK
            go_simp
            go_at_call 43
            (try rw [HXI.out])
            refine (HRX.out _).mono ?_
            rintro e w9 ⟨rfl, hw9⟩
            subst w9
            refine hK _ _ ?_
            clear hK K
            refine @BigFrame.wpList_want _ _ _ _ _ _ _ ?hw14165 ?_
            case hw14165 => kernel_rfl
            intro K hK
            go_simp
            refine hK _ _ ?_
            clear hK K
            refine @BigFrame.wpList_want _ _ _ _ _ _ _ ?hw14166 ?_
            case hw14166 => kernel_rfl
            intro K hK
            go_simp
            refine hK _ _ ?_
            clear hK K
            refine @wpList_skip _ _ _ _ _ _ _ ?hw14167 ?_
            case hw14167 => kernel_rfl
            simp only [Act.put, List.setIfInBounds_toArray, List.set_cons_zero, List.set_cons_succ]
            refine @wpList_skip _ _ _ _ _ _ _ ?hw14168 ?_
            case hw14168 => kernel_rfl
            simp only [Act.put, List.setIfInBounds_toArray, List.set_cons_zero, List.set_cons_succ]
            refine @wpList_skip _ _ _ _ _ _ _ ?hw14169 ?_
            case hw14169 => kernel_rfl
            simp only [Act.put, List.setIfInBounds_toArray, List.set_cons_zero, List.set_cons_succ]
            refine @wpList_skip _ _ _ _ _ _ _ ?hw14170 ?_
            case hw14170 => kernel_rfl
            simp only [Act.put, List.setIfInBounds_toArray, List.set_cons_zero, List.set_cons_succ]
            refine @wpList_skip _ _ _ _ _ _ _ ?hw14171 ?_
            case hw14171 => kernel_rfl
            simp only [Act.put, List.setIfInBounds_toArray, List.set_cons_zero, List.set_cons_succ]
            refine @wpList_skip _ _ _ _ _ _ _ ?hw14172 ?_
            case hw14172 => kernel_rfl
            simp only [Act.put, List.setIfInBounds_toArray, List.set_cons_zero, List.set_cons_succ]
            refine @wpList_skip _ _ _ _ _ _ _ ?hw14173 ?_
            case hw14173 => kernel_rfl
            simp only [Act.put, List.setIfInBounds_toArray, List.set_cons_zero, List.set_cons_succ]
            refine @BigFrame.wpList_want _ _ _ _ _ _ _ ?hw14174 ?_
            case hw14174 => kernel_rfl
            intro K hK
            go_simp
            refine hK _ _ ?_
            clear hK K
            refine @BigFrame.wpList_want _ _ _ _ _ _ _ ?hw14175 ?_
            case hw14175 => kernel_rfl
            intro K hK
            go_simp
            refine hK _ _ ?_
            clear hK K
            refine @wpList_skip _ _ _ _ _ _ _ ?hw14176 ?_
            case hw14176 => kernel_rfl
            simp only [Act.put, List.setIfInBounds_toArray, List.set_cons_zero, List.set_cons_succ]
            refine @wpList_skip _ _ _ _ _ _ _ ?hw14177 ?_
            case hw14177 => kernel_rfl
            simp only [Act.put, List.setIfInBounds_toArray, List.set_cons_zero, List.set_cons_succ]
            refine @wpList_skip _ _ _ _ _ _ _ ?hw14178 ?_
            case hw14178 => kernel_rfl
            simp only [Act.put, List.setIfInBounds_toArray, List.set_cons_zero, List.set_cons_succ]
            refine @wpList_skip _ _ _ _ _ _ _ ?hw14179 ?_
            case hw14179 => kernel_rfl
            simp only [Act.put, List.setIfInBounds_toArray, List.set_cons_zero, List.set_cons_succ]
            refine @wpList_skip _ _ _ _ _ _ _ ?hw14180 ?_
            case hw14180 => kernel_rfl
            simp only [Act.put, List.setIfInBounds_toArray, List.set_cons_zero, List.set_cons_succ]
            refine @wpList_skip _ _ _ _ _ _ _ ?hw14181 ?_
            case hw14181 => kernel_rfl
            simp only [Act.put, List.setIfInBounds_toArray, List.set_cons_zero, List.set_cons_succ]
            refine @wpList_skip _ _ _ _ _ _ _ ?hw14182 ?_
            case hw14182 => kernel_rfl
            simp only [Act.put, List.setIfInBounds_toArray, List.set_cons_zero, List.set_cons_succ]
            refine @wpList_skip _ _ _ _ _ _ _ ?hw14183 ?_
            case hw14183 => kernel_rfl
            simp only [Act.put, List.setIfInBounds_toArray, List.set_cons_zero, List.set_cons_succ]
            refine @wpList_skip _ _ _ _ _ _ _ ?hw14184 ?_
            case hw14184 => kernel_rfl
            simp only [Act.put, List.setIfInBounds_toArray, List.set_cons_zero, List.set_cons_succ]
            refine @wpList_skip _ _ _ _ _ _ _ ?hw14185 ?_
            case hw14185 => kernel_rfl
            simp only [Act.put, List.setIfInBounds_toArray, List.set_cons_zero, List.set_cons_succ]
            refine @wpList_skip _ _ _ _ _ _ _ ?hw14186 ?_
            case hw14186 => kernel_rfl
            simp only [Act.put, List.setIfInBounds_toArray, List.set_cons_zero, List.set_cons_succ]
            refine @wpList_skip _ _ _ _ _ _ _ ?hw14187 ?_
            case hw14187 => kernel_rfl
            simp only [Act.put, List.setIfInBounds_toArray, List.set_cons_zero, List.set_cons_succ]
            refine @BigFrame.wpList_want _ _ _ _ _ _ _ ?hw14188 ?_
            case hw14188 => kernel_rfl
            intro K hK
            go_simp
            refine hK _ _ ?_
            clear hK K
            clear c65 t0 hlti hk0 hcx
            go_wp2
            go_ret
            refine ⟨?_, K3.out⟩
            have hf : Tt.right L P = false := by
             have hq : Tt.looseOk L B F p.loose = false := by
              rw [HSQ.out]
              unfold Tt.looseOk
              by_cases h8 : fr ≤ x
              ·rw [decide_eq_false (show ¬ x < B from fun h => HH.out ⟨by have := HFR.out.1; omega, h⟩)]
               simp
              ·rw [decide_eq_false h8]
               rfl
             have hl : Tt.parentsOk L 0 P = false := by
              rw [HST.out, Tt.parentsOk, HX.out, hq]; rfl
             rw [HRT.out, hl]; simp
            rw [hf]; rfl
          ·have hlti : ¬ (k : Int) < (qn : Int) := by omega
           have HOKP : Hid (Tt.parentOk L i p = true) := Lib.hid (by
            rw [HX.out, HLQ.out, List.drop_of_length_le (by have := hk.out; rw [← HQN.out]; omega)]
            rfl)
           clear hlt hk
           go_wp2
           clear hlti c65
           go_roundw
           case rel => exact ⟨i + 1, by simp, Lib.hid HLT.out, Lib.hid (by rw [HST.out, Tt.parentsOk, HOKP.out]; rfl), T3, K3⟩
           case measure => have := HLT.out; simp [RowKit.intOf]; omega
        | false =>
         have HPB := Lib.hid (run_loadVar_mid w2 lb 1 39 (bcells p.pub) _ (pr_pub HOK.out L2.out) Tryz.underlying39 rfl (hashInfoT (by rw [bcells_length, HOK.out.1])))
         have HAB := Lib.hid (run_loadVar_mid w2 lb 33 39 (bcells p.abv) _ (pr_abv HOK.out L2.out) Tryz.underlying39 rfl (hashInfoT (by rw [bcells_length, HOK.out.2])))
         have he1 := fun w => hash_equalIn w p.pub Tt.z32 HOK.out.1 rfl
         have he2 := fun w => hash_equalIn w p.abv Tt.z32 HOK.out.2 rfl
         rw [← zeros_z32] at he1 he2
         obtain ⟨DP, hDP⟩ : ∃ DP, DP = (bcells p.pub).toArray := ⟨_, rfl⟩
         obtain ⟨DA, hDA⟩ : ∃ DA, DA = (bcells p.abv).toArray := ⟨_, rfl⟩
         rw [← hDP] at HPB he1
         rw [← hDA] at HAB he2
         obtain ⟨bp, hbp⟩ : ∃ bp, bp = (p.pub == Tt.z32) := ⟨_, rfl⟩
         obtain ⟨ba, hba⟩ : ∃ ba, ba = (p.abv == Tt.z32) := ⟨_, rfl⟩
         rw [← hbp] at he1
         rw [← hba] at he2
         have gd : Tryz.prog.eqGuardType Tryz.prog.depth 39 = false := macGuard25
         have HBP := Lib.hid hbp
         have HBA := Lib.hid hba
         clear hDP hDA hbp hba
         cases bp with
         | false =>
          clear he2
          go_upto_region 20 with fail
          refine wp_region_lit ?_
          refine @BigFrame.wpList_want _ _ _ _ _ _ _ ?hw14309 ?_
          case hw14309 => kernel_rfl
          intro K hK
          go_simp
          refine hK _ _ ?_
          clear hK K
          refine @BigFrame.wpList_want _ _ _ _ _ _ _ ?hw14310 ?_
          case hw14310 => kernel_rfl
          intro K hK
          go_simp
          refine hK _ _ ?_
          clear hK K
          refine @BigFrame.wpList_want _ _ _ _ _ _ _ ?hw14311 ?_
          case hw14311 => kernel_rfl
          intro K hK
          go_simp
          refine hK _ _ ?_
          clear hK K
          refine @BigFrame.wpList_want _ _ _ _ _ _ _ ?hw14312 ?_
          case hw14312 => kernel_rfl
          intro K hK
          go_simp
          refine hK _ _ ?_
          clear hK K
          refine @BigFrame.wpList_want _ _ _ _ _ _ _ ?hw14313 ?_
          case hw14313 => kernel_rfl
          intro K hK
          go_simp
          refine hK _ _ ?_
          clear hK K
          refine @wpList_load_known _ _ _ _ _ _ _ ?hw14314 39 (.tmp 89) rfl (lb) (1) rfl (.agg DP) (HPB.out) ?_
          case hw14314 => kernel_rfl
          simp only [Act.put, List.setIfInBounds_toArray, List.set_cons_zero, List.set_cons_succ]
          refine @wpL_build0 _ _ _ _ _ _ _ ?hw14315 39 rfl _ (build_zh _) ?_
          case hw14315 => kernel_rfl
          simp only [Act.put, List.setIfInBounds_toArray, List.set_cons_zero, List.set_cons_succ]
          refine @BigFrame.wpList_want _ _ _ _ _ _ _ ?hw14316 ?_
          case hw14316 => kernel_rfl
          intro K hK
          go_simp
          refine hK _ _ ?_
          clear hK K
          refine @BigFrame.wpList_want _ _ _ _ _ _ _ ?hw14317 ?_
          case hw14317 => kernel_rfl
          intro K hK
          go_simp
          refine hK _ _ ?_
          clear hK K
          refine @wpList_skip _ _ _ _ _ _ _ ?hw14318 ?_
          case hw14318 => kernel_rfl
          simp only [Act.put, List.setIfInBounds_toArray, List.set_cons_zero, List.set_cons_succ]
          refine @wpList_skip _ _ _ _ _ _ _ ?hw14319 ?_
          case hw14319 => kernel_rfl
          simp only [Act.put, List.setIfInBounds_toArray, List.set_cons_zero, List.set_cons_succ]
          refine @wpList_skip _ _ _ _ _ _ _ ?hw14320 ?_
          case hw14320 => kernel_rfl
          simp only [Act.put, List.setIfInBounds_toArray, List.set_cons_zero, List.set_cons_succ]
          refine @wpList_skip _ _ _ _ _ _ _ ?hw14321 ?_
          case hw14321 => kernel_rfl
          simp only [Act.put, List.setIfInBounds_toArray, List.set_cons_zero, List.set_cons_succ]
          refine @BigFrame.wpList_want _ _ _ _ _ _ _ ?hw14322 ?_
          case hw14322 => kernel_rfl
          intro K hK
          go_simp
          refine hK _ _ ?_
          clear hK K
          refine @BigFrame.wpList_want _ _ _ _ _ _ _ ?hw14323 ?_
          case hw14323 => kernel_rfl
          intro K hK
          go_simp
          refine hK _ _ ?_
          clear hK K
          refine @wpList_skip _ _ _ _ _ _ _ ?hw14324 ?_
          case hw14324 => kernel_rfl
          simp only [Act.put, List.setIfInBounds_toArray, List.set_cons_zero, List.set_cons_succ]
          refine @wpList_skip _ _ _ _ _ _ _ ?hw14325 ?_
          case hw14325 => kernel_rfl
          simp only [Act.put, List.setIfInBounds_toArray, List.set_cons_zero, List.set_cons_succ]
          refine @wpList_skip _ _ _ _ _ _ _ ?hw14326 ?_
          case hw14326 => kernel_rfl
          simp only [Act.put, List.setIfInBounds_toArray, List.set_cons_zero, List.set_cons_succ]
          refine @wpList_skip _ _ _ _ _ _ _ ?hw14327 ?_
          case hw14327 => kernel_rfl
          simp only [Act.put, List.setIfInBounds_toArray, List.set_cons_zero, List.set_cons_succ]
          refine @BigFrame.wpList_want _ _ _ _ _ _ _ ?hw14328 ?_
          case hw14328 => kernel_rfl
          intro K hK
          go_simp
          refine hK _ _ ?_
          clear hK K
          refine @BigFrame.wpList_want _ _ _ _ _ _ _ ?hw14329 ?_
          case hw14329 => kernel_rfl
          intro K hK
          go_simp
          refine hK _ _ ?_
          clear hK K
          clear he1 gd c0 c65
          go_wp2
          go_ret
          refine ⟨?_, K2.out⟩
          have hf : Tt.right L P = false := by
           have hl : Tt.parentsOk L 0 P = false := by
            rw [HST.out, Tt.parentsOk, show Tt.parentOk L i p = false by rw [Tt.parentOk, ← HSE.out, if_neg Bool.false_ne_true, ← HBP.out]; rfl]; rfl
           rw [HRT.out, hl]; simp
          rw [hf]; rfl
         | true =>
          cases ba with
          | false =>
           go_upto_region 20 with fail
           refine wp_region_lit ?_
           refine @BigFrame.wpList_want _ _ _ _ _ _ _ ?hw14330 ?_
           case hw14330 => kernel_rfl
           intro K hK
           go_simp
           refine hK _ _ ?_
           clear hK K
           refine @BigFrame.wpList_want _ _ _ _ _ _ _ ?hw14331 ?_
           case hw14331 => kernel_rfl
           intro K hK
           go_simp
           refine hK _ _ ?_
           clear hK K
           refine @BigFrame.wpList_want _ _ _ _ _ _ _ ?hw14332 ?_
           case hw14332 => kernel_rfl
           intro K hK
           go_simp
           refine hK _ _ ?_
           clear hK K
           refine @BigFrame.wpList_want _ _ _ _ _ _ _ ?hw14333 ?_
           case hw14333 => kernel_rfl
           intro K hK
           go_simp
           refine hK _ _ ?_
           clear hK K
           refine @BigFrame.wpList_want _ _ _ _ _ _ _ ?hw14334 ?_
           case hw14334 => kernel_rfl
           intro K hK
           go_simp
           refine hK _ _ ?_
           clear hK K
           refine @wpList_load_known _ _ _ _ _ _ _ ?hw14335 39 (.tmp 89) rfl (lb) (1) rfl (.agg DP) (HPB.out) ?_
           case hw14335 => kernel_rfl
           simp only [Act.put, List.setIfInBounds_toArray, List.set_cons_zero, List.set_cons_succ]
           refine @wpL_build0 _ _ _ _ _ _ _ ?hw14336 39 rfl _ (build_zh _) ?_
           case hw14336 => kernel_rfl
           simp only [Act.put, List.setIfInBounds_toArray, List.set_cons_zero, List.set_cons_succ]
           refine @BigFrame.wpList_want _ _ _ _ _ _ _ ?hw14337 ?_
           case hw14337 => kernel_rfl
           intro K hK
           go_simp
           refine hK _ _ ?_
           clear hK K
           refine @BigFrame.wpList_want _ _ _ _ _ _ _ ?hw14338 ?_
           case hw14338 => kernel_rfl
           intro K hK
           go_simp
           refine hK _ _ ?_
           clear hK K
           refine @BigFrame.wpList_want _ _ _ _ _ _ _ ?hw14339 ?_
           case hw14339 => kernel_rfl
           intro K hK
           go_simp
           refine hK _ _ ?_
           clear hK K
           refine @wpList_load_known _ _ _ _ _ _ _ ?hw14340 39 (.tmp 94) rfl (lb) (33) rfl (.agg DA) (HAB.out) ?_
           case hw14340 => kernel_rfl
           simp only [Act.put, List.setIfInBounds_toArray, List.set_cons_zero, List.set_cons_succ]
           refine @wpL_build0 _ _ _ _ _ _ _ ?hw14341 39 rfl _ (build_zh _) ?_
           case hw14341 => kernel_rfl
           simp only [Act.put, List.setIfInBounds_toArray, List.set_cons_zero, List.set_cons_succ]
           refine @BigFrame.wpList_want _ _ _ _ _ _ _ ?hw14342 ?_
           case hw14342 => kernel_rfl
           intro K hK
           go_simp
           refine hK _ _ ?_
           clear hK K
           refine @BigFrame.wpList_want _ _ _ _ _ _ _ ?hw14343 ?_
           case hw14343 => kernel_rfl
           intro K hK
           go_simp
           refine hK _ _ ?_
           clear hK K
           refine @BigFrame.wpList_want _ _ _ _ _ _ _ ?hw14344 ?_
           case hw14344 => kernel_rfl
           intro K hK
           go_simp
           refine hK _ _ ?_
           clear hK K
           refine @wpList_skip _ _ _ _ _ _ _ ?hw14345 ?_
           case hw14345 => kernel_rfl
           simp only [Act.put, List.setIfInBounds_toArray, List.set_cons_zero, List.set_cons_succ]
           refine @wpList_skip _ _ _ _ _ _ _ ?hw14346 ?_
           case hw14346 => kernel_rfl
           simp only [Act.put, List.setIfInBounds_toArray, List.set_cons_zero, List.set_cons_succ]
           refine @wpList_skip _ _ _ _ _ _ _ ?hw14347 ?_
           case hw14347 => kernel_rfl
           simp only [Act.put, List.setIfInBounds_toArray, List.set_cons_zero, List.set_cons_succ]
           refine @wpList_skip _ _ _ _ _ _ _ ?hw14348 ?_
           case hw14348 => kernel_rfl
           simp only [Act.put, List.setIfInBounds_toArray, List.set_cons_zero, List.set_cons_succ]
           refine @BigFrame.wpList_want _ _ _ _ _ _ _ ?hw14349 ?_
           case hw14349 => kernel_rfl
           intro K hK
           go_simp
           refine hK _ _ ?_
           clear hK K
           refine @BigFrame.wpList_want _ _ _ _ _ _ _ ?hw14350 ?_
           case hw14350 => kernel_rfl
           intro K hK
           go_simp
           refine hK _ _ ?_
           clear hK K
           clear he1 he2 gd c0 c65
           go_wp2
           go_ret
           refine ⟨?_, K2.out⟩
           have hf : Tt.right L P = false := by
            have hl : Tt.parentsOk L 0 P = false := by
             rw [HST.out, Tt.parentsOk, show Tt.parentOk L i p = false by rw [Tt.parentOk, ← HSE.out, if_neg Bool.false_ne_true, ← HBP.out, ← HBA.out]; rfl]; rfl
            rw [HRT.out, hl]; simp
           rw [hf]; rfl
          | true =>
           by_cases hq : qn = 0
           ·have hq1 : ¬ (qn : Int) > 0 := by omega
            have hq2 : ¬ 0 < qn := by omega
            have HX : Hid (Tt.parentOk L i p = Tt.looseOk L (Bo.Behind (ln : Int) ((2 * i + 1 : Nat) : Int)) (Bo.First (ln : Int) ((2 * i + 1 : Nat) : Int)) p.loose) := Lib.hid (by
             have h0 : p.loose = [] := List.eq_nil_of_length_eq_zero (by rw [← HQN.out]; exact hq)
             rw [Tt.parentOk, ← HSE.out, if_neg Bool.false_ne_true, ← HBP.out, ← HBA.out, h0]
             rfl)
            clear hq
            go_upto_region 20 with fail
            refine wp_region_lit ?_
            refine @BigFrame.wpList_want _ _ _ _ _ _ _ ?hw14351 ?_
            case hw14351 => kernel_rfl
            intro K hK
            go_simp
            refine hK _ _ ?_
            clear hK K
            refine @BigFrame.wpList_want _ _ _ _ _ _ _ ?hw14352 ?_
            case hw14352 => kernel_rfl
            intro K hK
            go_simp
            refine hK _ _ ?_
            clear hK K
            refine @BigFrame.wpList_want _ _ _ _ _ _ _ ?hw14353 ?_
            case hw14353 => kernel_rfl
            intro K hK
            go_simp
            refine hK _ _ ?_
            clear hK K
            refine @BigFrame.wpList_want _ _ _ _ _ _ _ ?hw14354 ?_
            case hw14354 => kernel_rfl
            intro K hK
            go_simp
            refine hK _ _ ?_
            clear hK K
            refine @BigFrame.wpList_want _ _ _ _ _ _ _ ?hw14355 ?_
            case hw14355 => kernel_rfl
            intro K hK
            go_simp
            refine hK _ _ ?_
            clear hK K
            refine @wpList_load_known _ _ _ _ _ _ _ ?hw14356 39 (.tmp 89) rfl (lb) (1) rfl (.agg DP) (HPB.out) ?_
            case hw14356 => kernel_rfl
            simp only [Act.put, List.setIfInBounds_toArray, List.set_cons_zero, List.set_cons_succ]
            refine @wpL_build0 _ _ _ _ _ _ _ ?hw14357 39 rfl _ (build_zh _) ?_
            case hw14357 => kernel_rfl
            simp only [Act.put, List.setIfInBounds_toArray, List.set_cons_zero, List.set_cons_succ]
            refine @BigFrame.wpList_want _ _ _ _ _ _ _ ?hw14358 ?_
            case hw14358 => kernel_rfl
            intro K hK
            go_simp
            refine hK _ _ ?_
            clear hK K
            refine @BigFrame.wpList_want _ _ _ _ _ _ _ ?hw14359 ?_
            case hw14359 => kernel_rfl
            intro K hK
            go_simp
            refine hK _ _ ?_
            clear hK K
            refine @BigFrame.wpList_want _ _ _ _ _ _ _ ?hw14360 ?_
            case hw14360 => kernel_rfl
            intro K hK
            go_simp
            refine hK _ _ ?_
            clear hK K
            refine @wpList_load_known _ _ _ _ _ _ _ ?hw14361 39 (.tmp 94) rfl (lb) (33) rfl (.agg DA) (HAB.out) ?_
            case hw14361 => kernel_rfl
            simp only [Act.put, List.setIfInBounds_toArray, List.set_cons_zero, List.set_cons_succ]
            refine @wpL_build0 _ _ _ _ _ _ _ ?hw14362 39 rfl _ (build_zh _) ?_
            case hw14362 => kernel_rfl
            simp only [Act.put, List.setIfInBounds_toArray, List.set_cons_zero, List.set_cons_succ]
            refine @BigFrame.wpList_want _ _ _ _ _ _ _ ?hw14363 ?_
            case hw14363 => kernel_rfl
            intro K hK
            go_simp
            refine hK _ _ ?_
            clear hK K
            refine @BigFrame.wpList_want _ _ _ _ _ _ _ ?hw14364 ?_
            case hw14364 => kernel_rfl
            intro K hK
            go_simp
            refine hK _ _ ?_
            clear hK K
            refine @BigFrame.wpList_want _ _ _ _ _ _ _ ?hw14365 ?_
            case hw14365 => kernel_rfl
            intro K hK
            go_simp
            refine hK _ _ ?_
            clear hK K
            refine @BigFrame.wpList_want _ _ _ _ _ _ _ ?hw14366 ?_
            case hw14366 => kernel_rfl
            intro K hK
            go_simp
            refine hK _ _ ?_
            clear hK K
            refine @BigFrame.wpList_want _ _ _ _ _ _ _ ?hw14367 ?_
            case hw14367 => kernel_rfl
            intro K hK
            go_simp
            refine hK _ _ ?_
            clear hK K
            refine @BigFrame.wpList_want _ _ _ _ _ _ _ ?hw14368 ?_
            case hw14368 => kernel_rfl
            intro K hK
            go_simp
            refine hK _ _ ?_
            clear hK K
            refine @BigFrame.wpList_want _ _ _ _ _ _ _ ?hw14369 ?_
            case hw14369 => kernel_rfl
            intro K hK
            go_simp
            refine hK _ _ ?_
            clear hK K
            refine @BigFrame.wpList_want _ _ _ _ _ _ _ ?hw14370 ?_
            case hw14370 => kernel_rfl
            intro K hK
            go_simp
            refine hK _ _ ?_
            clear hK K
            refine @BigFrame.wpList_want _ _ _ _ _ _ _ ?hw14371 ?_
            case hw14371 => kernel_rfl
            intro K hK
            go_simp
            refine hK _ _ ?_
            clear hK K
            clear he1 he2 gd c0 c65
            clear hq1 hq2
            have hbd := Bo.bounds ln ((2 * i + 1 : Nat) : Int)
            obtain ⟨F, hF⟩ : ∃ F, F = Bo.First (ln : Int) ((2 * i + 1 : Nat) : Int) := ⟨_, rfl⟩
            obtain ⟨B, hB⟩ : ∃ B, B = Bo.Behind (ln : Int) ((2 * i + 1 : Nat) : Int) := ⟨_, rfl⟩
            rw [← hF, ← hB] at HX hbd
            have HRH : Hid (∀ (x : Int) (w : World), Calls Tryz.prog 43 #[.int .i64 (ln : Int), .int .i64 ((2 * i + 1 : Nat) : Int), .int .i64 x] w fun e w' => e = .returned (.bool (decide (F ≤ x) && decide (x < B))) ∧ w' = w) := Lib.hid (fun x w => by rw [hF, hB]; exact rholds_calls _ _ x w)
            have hii : (i : Int) ≤ 64 := by have := HLT.out; omega
            have hxi : IntKind.i64.wrap (IntKind.i64.wrap (2 * (i : Int)) + 1) = ((2 * i + 1 : Nat) : Int) := by
             rw [show IntKind.i64.wrap (2 * (i : Int)) = 2 * (i : Int) by rw [IntKind.wrap_i64]; omega, IntKind.wrap_i64]
             omega
            have HXI := Lib.hid hxi
            have HF0 := Lib.hid hbd.1
            have HBN := Lib.hid hbd.2
            clear hbd hF hB hxi hii
            go_wp2
            go_loopw [9] (fun s9 wr => ∃ k : Nat, s9 = .int .i64 (k : Int) ∧ ∃ fr : Int, Hid (k ≤ qn) ∧ Hid (Tt.looseOk L B F p.loose = Tt.looseOk L B fr (p.loose.drop k)) ∧ Hid (F ≤ fr ∧ (k = 0 → fr = F) ∧ ∀ j (hj : j < p.loose.length), k = j + 1 → fr = p.loose[j] + 1) ∧ Hid (wr.heap[tb]? = some (.cells #[.slice ad ln c, .slice (some ⟨pg, po, none⟩) pn pc] 27 (0, 0))) ∧ Hid (wr.heap[lb]? = some (.cells (p.cells (.slice sad qn sc)).toArray 75 (0, 0))) ∧ Hid (Kept w.heap.size w.heap.size w wr)) (fun s9 _ => qn - (RowKit.intOf s9).toNat)
            case atStart => exact ⟨0, rfl, F, Lib.hid (Nat.zero_le _), Lib.hid rfl, Lib.hid ⟨Int.le_refl _, fun _ => rfl, fun j _ h => by omega⟩, T2, L2, K2⟩
            case round =>
             clear T2 L2 K2
             obtain ⟨k, rfl, fr, hk, HLQ, HFR, T3, L3, K3⟩ := hrel
             have c65 := pr_loose HOK.out L3.out
             by_cases hlt : k < qn
             ·have hkL : k < p.loose.length := by rw [← HQN.out]; exact hlt
              obtain ⟨rfl, hg, hx⟩ := HSC.out k hkL
              have hlti : (k : Int) < (qn : Int) := by omega
              have hk0 : ¬ (k : Int) < 0 := by omega
              have hcx := (K3.out.cell (p := ⟨sg, so + k, none⟩) hg (Nat.ne_of_lt hg)).trans hx
              have HSQ : Hid (Tt.looseOk L B F p.loose = Tt.looseOk L B fr (p.loose[k] :: p.loose.drop (k + 1))) := Lib.hid (by rw [HLQ.out, List.drop_eq_getElem_cons hkL])
              have HPV : Hid (0 < k → ∃ pv : Int, fr = pv + 1 ∧ wr.cell? ⟨sg, so + (k - 1), none⟩ = some (.int .i64 pv)) := Lib.hid (fun h => ⟨p.loose[k - 1], HFR.out.2.2 (k - 1) (by omega) (by omega), (K3.out.cell (p := ⟨sg, so + (k - 1), none⟩) hg (Nat.ne_of_lt hg)).trans (HSC.out (k - 1) (by omega)).2.2⟩)
              have HNX : Hid (∀ j (hj : j < p.loose.length), k + 1 = j + 1 → p.loose[k] + 1 = p.loose[j] + 1) := Lib.hid (fun j hj h => by
               obtain rfl : k = j := by omega
               rfl)
              obtain ⟨x, hxk⟩ : ∃ x, x = p.loose[k] := ⟨_, rfl⟩
              rw [← hxk] at hcx HSQ HNX
              have HLK := Lib.hid hlt
              have t0 := two_cell0 T3.out
              clear hxk hx hkL hg hk hlt
              go_upto_region 26 with fail
              by_cases hh : F ≤ x ∧ x < B
              ·have HH := Lib.hid hh
               have HRX : Hid (∀ w, Calls Tryz.prog 43 #[.int .i64 (ln : Int), .int .i64 ((2 * i + 1 : Nat) : Int), .int .i64 x] w fun e w' => e = .returned (.bool true) ∧ w' = w) := Lib.hid (fun w => by
                have := HRH.out x w
                rw [decide_eq_true hh.1, decide_eq_true hh.2] at this
                exact this)
               clear hh
               obtain ⟨px, rfl⟩ : ∃ px : Nat, x = (px : Int) := ⟨x.toNat, by have := HF0.out; have := HH.out.1; omega⟩
               have hpl : px < L.length := by have := HBN.out; have := HLN.out; have := HH.out.2; omega
               obtain ⟨rfl, hg2, hok2, hr2⟩ := HC.out px hpl
               have hpxi : (px : Int) < (ln : Int) := by have := HLN.out; omega
               have hpx0 : ¬ (px : Int) < 0 := by omega
               have hcn0 : w.cell? ⟨g, o + px * 97, none⟩ = some (.int .i64 L[px].name) := hr2 0 _ (by simp [Lf.cells])
               have hcn := (K3.out.cell (p := ⟨g, o + px * 97, none⟩) hg2 (Nat.ne_of_lt hg2)).trans hcn0
               rw [← Tt.nameAt_eq hpl] at hcn
               obtain ⟨nm, hnm⟩ : ∃ nm, nm = Tt.nameAt L (px : Int) := ⟨_, rfl⟩
               rw [← hnm] at hcn
               have HNM := Lib.hid hnm
               clear hnm hcn0 hr2 hok2 hg2 hpl
               by_cases hz : nm = 0
               ·have hzb : (nm == 0) = true := by rw [beq_iff_eq]; exact hz
                have HZB := Lib.hid hzb
                clear hz
                refine wp_region_lit ?_
                refine @BigFrame.wpList_want _ _ _ _ _ _ _ ?hv14402 ?_
                case hv14402 => kernel_rfl
                intro K hK
                go_simp
                refine hK _ _ ?_
                clear hK K
                refine @BigFrame.wpList_want _ _ _ _ _ _ _ ?hv14403 ?_
                case hv14403 => kernel_rfl
                intro K hK
                go_simp
                refine hK _ _ ?_
                clear hK K
                refine @BigFrame.wpList_want _ _ _ _ _ _ _ ?hv14404 ?_
                case hv14404 => kernel_rfl
                intro K hK
                go_simp
                refine hK _ _ ?_
                clear hK K
                refine @BigFrame.wpList_want _ _ _ _ _ _ _ ?hv14405 ?_
                case hv14405 => kernel_rfl
                intro K hK
                go_simp
                refine hK _ _ ?_
                clear hK K
                refine @BigFrame.wpList_want _ _ _ _ _ _ _ ?hv14406 ?_
                case hv14406 => kernel_rfl
                intro K hK
                go_simp
                refine hK _ _ ?_
                clear hK K
                refine @BigFrame.wpList_want _ _ _ _ _ _ _ ?hv14407 ?_
                case hv14407 => kernel_rfl
                intro K hK
                go_simp
                go_at_call 43
                (try rw [HXI.out])
                refine (HRX.out _).mono ?_
                rintro e w9 ⟨rfl, hw9⟩
                subst w9
                refine hK _ _ ?_
                clear hK K
                refine @BigFrame.wpList_want _ _ _ _ _ _ _ ?hv14408 ?_
                case hv14408 => kernel_rfl
                intro K hK
                go_simp
                refine hK _ _ ?_
                clear hK K
                refine @BigFrame.wpList_want _ _ _ _ _ _ _ ?hv14409 ?_
                case hv14409 => kernel_rfl
                intro K hK
                go_simp
                refine hK _ _ ?_
                clear hK K
                refine @BigFrame.wpList_want _ _ _ _ _ _ _ ?hv14410 ?_
                case hv14410 => kernel_rfl
                intro K hK
                go_simp
                refine hK _ _ ?_
                clear hK K
                refine @BigFrame.wpList_want _ _ _ _ _ _ _ ?hv14411 ?_
                case hv14411 => kernel_rfl
                intro K hK
                go_simp
                refine hK _ _ ?_
                clear hK K
                refine @BigFrame.wpList_want _ _ _ _ _ _ _ ?hv14412 ?_
                case hv14412 => kernel_rfl
                intro K hK
                go_simp
                refine hK _ _ ?_
                clear hK K
                refine @BigFrame.wpList_want _ _ _ _ _ _ _ ?hv14413 ?_
                case hv14413 => kernel_rfl
                intro K hK
                go_simp
                refine hK _ _ ?_
                clear hK K
                refine @BigFrame.wpList_want _ _ _ _ _ _ _ ?hv14414 ?_
                case hv14414 => kernel_rfl
                intro K hK
                go_simp
                refine hK _ _ ?_
                clear hK K
                refine @BigFrame.wpList_want _ _ _ _ _ _ _ ?hv14415 ?_
                case hv14415 => kernel_rfl
                intro K hK
                go_simp
                refine hK _ _ ?_
                clear hK K
                refine @BigFrame.wpList_want _ _ _ _ _ _ _ ?hv14416 ?_
                case hv14416 => kernel_rfl
                intro K hK
                go_simp
                refine hK _ _ ?_
                clear hK K
                refine @BigFrame.wpList_want _ _ _ _ _ _ _ ?hv14417 ?_
                case hv14417 => kernel_rfl
                intro K hK
                go_simp
                refine hK _ _ ?_
                clear hK K
                refine @BigFrame.wpList_want _ _ _ _ _ _ _ ?hv14418 ?_
                case hv14418 => kernel_rfl
                intro K hK
                go_simp
                refine hK _ _ ?_
                clear hK K
                refine @wpList_skip _ _ _ _ _ _ _ ?hv14419 ?_
                case hv14419 => kernel_rfl
                simp only [Act.put, List.setIfInBounds_toArray, List.set_cons_zero, List.set_cons_succ]
                refine @wpList_skip _ _ _ _ _ _ _ ?hv14420 ?_
                case hv14420 => kernel_rfl
                simp only [Act.put, List.setIfInBounds_toArray, List.set_cons_zero, List.set_cons_succ]
                refine @wpList_skip _ _ _ _ _ _ _ ?hv14421 ?_
                case hv14421 => kernel_rfl
                simp only [Act.put, List.setIfInBounds_toArray, List.set_cons_zero, List.set_cons_succ]
                refine @wpList_skip _ _ _ _ _ _ _ ?hv14422 ?_
                case hv14422 => kernel_rfl
                simp only [Act.put, List.setIfInBounds_toArray, List.set_cons_zero, List.set_cons_succ]
                refine @wpList_skip _ _ _ _ _ _ _ ?hv14423 ?_
                case hv14423 => kernel_rfl
                simp only [Act.put, List.setIfInBounds_toArray, List.set_cons_zero, List.set_cons_succ]
                refine @wpList_skip _ _ _ _ _ _ _ ?hv14424 ?_
                case hv14424 => kernel_rfl
                simp only [Act.put, List.setIfInBounds_toArray, List.set_cons_zero, List.set_cons_succ]
                refine @wpList_skip _ _ _ _ _ _ _ ?hv14425 ?_
                case hv14425 => kernel_rfl
                simp only [Act.put, List.setIfInBounds_toArray, List.set_cons_zero, List.set_cons_succ]
                refine @wpList_skip _ _ _ _ _ _ _ ?hv14426 ?_
                case hv14426 => kernel_rfl
                simp only [Act.put, List.setIfInBounds_toArray, List.set_cons_zero, List.set_cons_succ]
                refine @wpList_skip _ _ _ _ _ _ _ ?hv14427 ?_
                case hv14427 => kernel_rfl
                simp only [Act.put, List.setIfInBounds_toArray, List.set_cons_zero, List.set_cons_succ]
                refine @wpList_skip _ _ _ _ _ _ _ ?hv14428 ?_
                case hv14428 => kernel_rfl
                simp only [Act.put, List.setIfInBounds_toArray, List.set_cons_zero, List.set_cons_succ]
                refine @wpList_skip _ _ _ _ _ _ _ ?hv14429 ?_
                case hv14429 => kernel_rfl
                simp only [Act.put, List.setIfInBounds_toArray, List.set_cons_zero, List.set_cons_succ]
                refine @wpList_skip _ _ _ _ _ _ _ ?hv14430 ?_
                case hv14430 => kernel_rfl
                simp only [Act.put, List.setIfInBounds_toArray, List.set_cons_zero, List.set_cons_succ]
                refine @BigFrame.wpList_want _ _ _ _ _ _ _ ?hv14431 ?_
                case hv14431 => kernel_rfl
                intro K hK
                go_simp
                refine hK _ _ ?_
                clear hK K
                clear c65 t0 hlti hk0 hcx
                clear hpxi hpx0 hcn hzb
                go_wp2
                go_ret
                refine ⟨?_, K3.out⟩
                have hf : Tt.right L P = false := by
                 have hq : Tt.looseOk L B F p.loose = false := by
                  rw [HSQ.out]
                  unfold Tt.looseOk
                  rw [← HNM.out, HZB.out]
                  simp
                 have hl : Tt.parentsOk L 0 P = false := by
                  rw [HST.out, Tt.parentsOk, HX.out, hq]; rfl
                 rw [HRT.out, hl]; simp
                rw [hf]; rfl
               ·have hzb : (nm == 0) = false := by rw [beq_eq_false_iff_ne]; exact hz
                have HZB := Lib.hid hzb
                clear hz
                by_cases hkz : 0 < k
                ·have hkz1 : (k : Int) > 0 := by omega
                 obtain ⟨pv, hpv, hcp⟩ := HPV.out hkz
                 obtain ⟨km, hkm⟩ : ∃ km, km = k - 1 := ⟨_, rfl⟩
                 rw [← hkm] at hcp
                 have hwk : IntKind.i64.wrap ((k : Int) - 1) = (km : Int) := by rw [IntKind.wrap_i64]; omega
                 have hkm1 : (km : Int) < (qn : Int) := by omega
                 have hkm0 : ¬ (km : Int) < 0 := by omega
                 have HPW := Lib.hid hpv
                 clear hkm hpv
                 by_cases hge : pv ≥ (px : Int)
                 ·have HGE := Lib.hid hge
                  refine wp_region_lit ?_
                  refine @BigFrame.wpList_want _ _ _ _ _ _ _ ?hv14432 ?_
                  case hv14432 => kernel_rfl
                  intro K hK
                  go_simp
                  refine hK _ _ ?_
                  clear hK K
                  refine @BigFrame.wpList_want _ _ _ _ _ _ _ ?hv14433 ?_
                  case hv14433 => kernel_rfl
                  intro K hK
                  go_simp
                  refine hK _ _ ?_
                  clear hK K
                  refine @BigFrame.wpList_want _ _ _ _ _ _ _ ?hv14434 ?_
                  case hv14434 => kernel_rfl
                  intro K hK
                  go_simp
                  refine hK _ _ ?_
                  clear hK K
                  refine @BigFrame.wpList_want _ _ _ _ _ _ _ ?hv14435 ?_
                  case hv14435 => kernel_rfl
                  intro K hK
                  go_simp
                  refine hK _ _ ?_
                  clear hK K
                  refine @BigFrame.wpList_want _ _ _ _ _ _ _ ?hv14436 ?_
                  case hv14436 => kernel_rfl
                  intro K hK
                  go_simp
                  refine hK _ _ ?_
                  clear hK K
                  refine @BigFrame.wpList_want _ _ _ _ _ _ _ ?hv14437 ?_
                  case hv14437 => kernel_rfl
                  intro K hK
                  go_simp
                  go_at_call 43
                  (try rw [HXI.out])
                  refine (HRX.out _).mono ?_
                  rintro e w9 ⟨rfl, hw9⟩
                  subst w9
                  refine hK _ _ ?_
                  clear hK K
                  refine @BigFrame.wpList_want _ _ _ _ _ _ _ ?hv14438 ?_
                  case hv14438 => kernel_rfl
                  intro K hK
                  go_simp
                  refine hK _ _ ?_
                  clear hK K
                  refine @BigFrame.wpList_want _ _ _ _ _ _ _ ?hv14439 ?_
                  case hv14439 => kernel_rfl
                  intro K hK
                  go_simp
                  refine hK _ _ ?_
                  clear hK K
                  refine @BigFrame.wpList_want _ _ _ _ _ _ _ ?hv14440 ?_
                  case hv14440 => kernel_rfl
                  intro K hK
                  go_simp
                  refine hK _ _ ?_
                  clear hK K
                  refine @BigFrame.wpList_want _ _ _ _ _ _ _ ?hv14441 ?_
                  case hv14441 => kernel_rfl
                  intro K hK
                  go_simp
                  refine hK _ _ ?_
                  clear hK K
                  refine @BigFrame.wpList_want _ _ _ _ _ _ _ ?hv14442 ?_
                  case hv14442 => kernel_rfl
                  intro K hK
                  go_simp
                  refine hK _ _ ?_
                  clear hK K
                  refine @BigFrame.wpList_want _ _ _ _ _ _ _ ?hv14443 ?_
                  case hv14443 => kernel_rfl
                  intro K hK
                  go_simp
                  refine hK _ _ ?_
                  clear hK K
                  refine @BigFrame.wpList_want _ _ _ _ _ _ _ ?hv14444 ?_
                  case hv14444 => kernel_rfl
                  intro K hK
                  go_simp
                  refine hK _ _ ?_
                  clear hK K
                  refine @BigFrame.wpList_want _ _ _ _ _ _ _ ?hv14445 ?_
                  case hv14445 => kernel_rfl
                  intro K hK
                  go_simp
                  refine hK _ _ ?_
                  clear hK K
                  refine @BigFrame.wpList_want _ _ _ _ _ _ _ ?hv14446 ?_
                  case hv14446 => kernel_rfl
                  intro K hK
                  go_simp
                  refine hK _ _ ?_
                  clear hK K
                  refine @BigFrame.wpList_want _ _ _ _ _ _ _ ?hv14447 ?_
                  case hv14447 => kernel_rfl
                  intro K hK
                  go_simp
                  refine hK _ _ ?_
                  clear hK K
                  refine @BigFrame.wpList_want _ _ _ _ _ _ _ ?hv14448 ?_
                  case hv14448 => kernel_rfl
                  intro K hK
                  go_simp
                  refine hK _ _ ?_
                  clear hK K
                  refine @BigFrame.wpList_want _ _ _ _ _ _ _ ?hv14449 ?_
                  case hv14449 => kernel_rfl
                  intro K hK
                  go_simp
                  refine hK _ _ ?_
                  clear hK K
                  refine @BigFrame.wpList_want _ _ _ _ _ _ _ ?hv14450 ?_
                  case hv14450 => kernel_rfl
                  intro K hK
                  go_simp
                  refine hK _ _ ?_
                  clear hK K
                  refine @BigFrame.wpList_want _ _ _ _ _ _ _ ?hv14451 ?_
                  case hv14451 => kernel_rfl
                  intro K hK
                  go_simp
                  refine hK _ _ ?_
                  clear hK K
                  refine @BigFrame.wpList_want _ _ _ _ _ _ _ ?hv14452 ?_
                  case hv14452 => kernel_rfl
                  intro K hK
                  go_simp
                  refine hK _ _ ?_
                  clear hK K
                  refine @BigFrame.wpList_want _ _ _ _ _ _ _ ?hv14453 ?_
                  case hv14453 => kernel_rfl
                  intro K hK
                  go_simp
                  refine hK _ _ ?_
                  clear hK K
                  refine @BigFrame.wpList_want _ _ _ _ _ _ _ ?hv14454 ?_
                  case hv14454 => kernel_rfl
                  intro K hK
                  go_simp
                  refine hK _ _ ?_
                  clear hK K
                  refine @BigFrame.wpList_want _ _ _ _ _ _ _ ?hv14455 ?_
                  case hv14455 => kernel_rfl
                  intro K hK
                  go_simp
                  refine hK _ _ ?_
                  clear hK K
                  refine @BigFrame.wpList_want _ _ _ _ _ _ _ ?hv14456 ?_
                  case hv14456 => kernel_rfl
                  intro K hK
                  go_simp
                  refine hK _ _ ?_
                  clear hK K
                  refine @BigFrame.wpList_want _ _ _ _ _ _ _ ?hv14457 ?_
                  case hv14457 => kernel_rfl
                  intro K hK
                  go_simp
                  refine hK _ _ ?_
                  clear hK K
                  refine @BigFrame.wpList_want _ _ _ _ _ _ _ ?hv14458 ?_
                  case hv14458 => kernel_rfl
                  intro K hK
                  go_simp
                  refine hK _ _ ?_
                  clear hK K
                  refine @BigFrame.wpList_want _ _ _ _ _ _ _ ?hv14459 ?_
                  case hv14459 => kernel_rfl
                  intro K hK
                  go_simp
                  refine hK _ _ ?_
                  clear hK K
                  refine @BigFrame.wpList_want _ _ _ _ _ _ _ ?hv14460 ?_
                  case hv14460 => kernel_rfl
                  intro K hK
                  go_simp
                  refine hK _ _ ?_
                  clear hK K
                  refine @BigFrame.wpList_want _ _ _ _ _ _ _ ?hv14461 ?_
                  case hv14461 => kernel_rfl
                  intro K hK
                  go_simp
                  refine hK _ _ ?_
                  clear hK K
                  clear c65 t0 hlti hk0 hcx
                  clear hpxi hpx0 hcn hzb
                  clear hkz hkz1 hcp hwk hkm1 hkm0 hge
                  go_wp2
                  go_ret
                  refine ⟨?_, K3.out⟩
                  have hf : Tt.right L P = false := by
                   have hq : Tt.looseOk L B F p.loose = false := by
                    rw [HSQ.out]
                    unfold Tt.looseOk
                    rw [decide_eq_false (show ¬ fr ≤ (px : Int) by have := HGE.out; have := HPW.out; omega)]
                    rfl
                   have hl : Tt.parentsOk L 0 P = false := by
                    rw [HST.out, Tt.parentsOk, HX.out, hq]; rfl
                   rw [HRT.out, hl]; simp
                  rw [hf]; rfl
                 ·have HGE := Lib.hid (show fr ≤ (px : Int) by have := HPW.out; omega)
                  refine wp_region_lit ?_
                  refine @BigFrame.wpList_want _ _ _ _ _ _ _ ?hv14462 ?_
                  case hv14462 => kernel_rfl
                  intro K hK
                  go_simp
                  refine hK _ _ ?_
                  clear hK K
                  refine @BigFrame.wpList_want _ _ _ _ _ _ _ ?hv14463 ?_
                  case hv14463 => kernel_rfl
                  intro K hK
                  go_simp
                  refine hK _ _ ?_
                  clear hK K
                  refine @BigFrame.wpList_want _ _ _ _ _ _ _ ?hv14464 ?_
                  case hv14464 => kernel_rfl
                  intro K hK
                  go_simp
                  refine hK _ _ ?_
                  clear hK K
                  refine @BigFrame.wpList_want _ _ _ _ _ _ _ ?hv14465 ?_
                  case hv14465 => kernel_rfl
                  intro K hK
                  go_simp
                  refine hK _ _ ?_
                  clear hK K
                  refine @BigFrame.wpList_want _ _ _ _ _ _ _ ?hv14466 ?_
                  case hv14466 => kernel_rfl
                  intro K hK
                  go_simp
                  refine hK _ _ ?_
                  clear hK K
                  refine @BigFrame.wpList_want _ _ _ _ _ _ _ ?hv14467 ?_
                  case hv14467 => kernel_rfl
                  intro K hK
                  go_simp
                  go_at_call 43
                  (try rw [HXI.out])
                  refine (HRX.out _).mono ?_
                  rintro e w9 ⟨rfl, hw9⟩
                  subst w9
                  refine hK _ _ ?_
                  clear hK K
                  refine @BigFrame.wpList_want _ _ _ _ _ _ _ ?hv14468 ?_
                  case hv14468 => kernel_rfl
                  intro K hK
                  go_simp
                  refine hK _ _ ?_
                  clear hK K
                  refine @BigFrame.wpList_want _ _ _ _ _ _ _ ?hv14469 ?_
                  case hv14469 => kernel_rfl
                  intro K hK
                  go_simp
                  refine hK _ _ ?_
                  clear hK K
                  refine @BigFrame.wpList_want _ _ _ _ _ _ _ ?hv14470 ?_
                  case hv14470 => kernel_rfl
                  intro K hK
                  go_simp
                  refine hK _ _ ?_
                  clear hK K
                  refine @BigFrame.wpList_want _ _ _ _ _ _ _ ?hv14471 ?_
                  case hv14471 => kernel_rfl
                  intro K hK
                  go_simp
                  refine hK _ _ ?_
                  clear hK K
                  refine @BigFrame.wpList_want _ _ _ _ _ _ _ ?hv14472 ?_
                  case hv14472 => kernel_rfl
                  intro K hK
                  go_simp
                  refine hK _ _ ?_
                  clear hK K
                  refine @BigFrame.wpList_want _ _ _ _ _ _ _ ?hv14473 ?_
                  case hv14473 => kernel_rfl
                  intro K hK
                  go_simp
                  refine hK _ _ ?_
                  clear hK K
                  refine @BigFrame.wpList_want _ _ _ _ _ _ _ ?hv14474 ?_
                  case hv14474 => kernel_rfl
                  intro K hK
                  go_simp
                  refine hK _ _ ?_
                  clear hK K
                  refine @BigFrame.wpList_want _ _ _ _ _ _ _ ?hv14475 ?_
                  case hv14475 => kernel_rfl
                  intro K hK
                  go_simp
                  refine hK _ _ ?_
                  clear hK K
                  refine @BigFrame.wpList_want _ _ _ _ _ _ _ ?hv14476 ?_
                  case hv14476 => kernel_rfl
                  intro K hK
                  go_simp
                  refine hK _ _ ?_
                  clear hK K
                  refine @BigFrame.wpList_want _ _ _ _ _ _ _ ?hv14477 ?_
                  case hv14477 => kernel_rfl
                  intro K hK
                  go_simp
                  refine hK _ _ ?_
                  clear hK K
                  refine @BigFrame.wpList_want _ _ _ _ _ _ _ ?hv14478 ?_
                  case hv14478 => kernel_rfl
                  intro K hK
                  go_simp
                  refine hK _ _ ?_
                  clear hK K
                  refine @BigFrame.wpList_want _ _ _ _ _ _ _ ?hv14479 ?_
                  case hv14479 => kernel_rfl
                  intro K hK
                  go_simp
                  refine hK _ _ ?_
                  clear hK K
                  refine @BigFrame.wpList_want _ _ _ _ _ _ _ ?hv14480 ?_
                  case hv14480 => kernel_rfl
                  intro K hK
                  go_simp
                  refine hK _ _ ?_
                  clear hK K
                  refine @BigFrame.wpList_want _ _ _ _ _ _ _ ?hv14481 ?_
                  case hv14481 => kernel_rfl
                  intro K hK
                  go_simp
                  refine hK _ _ ?_
                  clear hK K
                  refine @BigFrame.wpList_want _ _ _ _ _ _ _ ?hv14482 ?_
                  case hv14482 => kernel_rfl
                  intro K hK
                  go_simp
                  refine hK _ _ ?_
                  clear hK K
                  refine @BigFrame.wpList_want _ _ _ _ _ _ _ ?hv14483 ?_
                  case hv14483 => kernel_rfl
                  intro K hK
                  go_simp
                  refine hK _ _ ?_
                  clear hK K
                  refine @BigFrame.wpList_want _ _ _ _ _ _ _ ?hv14484 ?_
                  case hv14484 => kernel_rfl
                  intro K hK
                  go_simp
                  refine hK _ _ ?_
                  clear hK K
                  refine @BigFrame.wpList_want _ _ _ _ _ _ _ ?hv14485 ?_
                  case hv14485 => kernel_rfl
                  intro K hK
                  go_simp
                  refine hK _ _ ?_
                  clear hK K
                  refine @BigFrame.wpList_want _ _ _ _ _ _ _ ?hv14486 ?_
                  case hv14486 => kernel_rfl
                  intro K hK
                  go_simp
                  refine hK _ _ ?_
                  clear hK K
                  refine @BigFrame.wpList_want _ _ _ _ _ _ _ ?hv14487 ?_
                  case hv14487 => kernel_rfl
                  intro K hK
                  go_simp
                  refine hK _ _ ?_
                  clear hK K
                  refine @BigFrame.wpList_want _ _ _ _ _ _ _ ?hv14488 ?_
                  case hv14488 => kernel_rfl
                  intro K hK
                  go_simp
                  refine hK _ _ ?_
                  clear hK K
                  refine @BigFrame.wpList_want _ _ _ _ _ _ _ ?hv14489 ?_
                  case hv14489 => kernel_rfl
                  intro K hK
                  go_simp
                  refine hK _ _ ?_
                  clear hK K
                  refine @BigFrame.wpList_want _ _ _ _ _ _ _ ?hv14490 ?_
                  case hv14490 => kernel_rfl
                  intro K hK
                  go_simp
                  refine hK _ _ ?_
                  clear hK K
                  refine @BigFrame.wpList_want _ _ _ _ _ _ _ ?hv14491 ?_
                  case hv14491 => kernel_rfl
                  intro K hK
                  go_simp
                  refine hK _ _ ?_
                  clear hK K
                  clear c65 t0 hk0 hcx
                  clear hpxi hpx0 hcn hzb
                  clear hkz hkz1 hcp hwk hkm1 hkm0 hge
                  go_wp2
                  go_roundw
                  case rel => exact ⟨k + 1, by simp, (px : Int) + 1, Lib.hid HLK.out, Lib.hid (by
                   rw [HSQ.out, Tt.looseOk, decide_eq_true HGE.out, decide_eq_true HH.out.2, ← HNM.out, HZB.out]
                   rfl), Lib.hid ⟨by have := HH.out.1; omega, fun h => by omega, HNX.out⟩, T3, L3, K3⟩
                  case measure => have := HLK.out; simp [RowKit.intOf]; omega
                ·have hkz1 : ¬ (k : Int) > 0 := by omega
                 have HGE := Lib.hid (show fr ≤ (px : Int) by have := HFR.out.2.1 (by omega); have := HH.out.1; omega)
                 refine wp_region_lit ?_
                 refine @BigFrame.wpList_want _ _ _ _ _ _ _ ?hv14492 ?_
                 case hv14492 => kernel_rfl
                 intro K hK
                 go_simp
                 refine hK _ _ ?_
                 clear hK K
                 refine @BigFrame.wpList_want _ _ _ _ _ _ _ ?hv14493 ?_
                 case hv14493 => kernel_rfl
                 intro K hK
                 go_simp
                 refine hK _ _ ?_
                 clear hK K
                 refine @BigFrame.wpList_want _ _ _ _ _ _ _ ?hv14494 ?_
                 case hv14494 => kernel_rfl
                 intro K hK
                 go_simp
                 refine hK _ _ ?_
                 clear hK K
                 refine @BigFrame.wpList_want _ _ _ _ _ _ _ ?hv14495 ?_
                 case hv14495 => kernel_rfl
                 intro K hK
                 go_simp
                 refine hK _ _ ?_
                 clear hK K
                 refine @BigFrame.wpList_want _ _ _ _ _ _ _ ?hv14496 ?_
                 case hv14496 => kernel_rfl
                 intro K hK
                 go_simp
                 refine hK _ _ ?_
                 clear hK K
                 refine @BigFrame.wpList_want _ _ _ _ _ _ _ ?hv14497 ?_
                 case hv14497 => kernel_rfl
                 intro K hK
                 go_simp
                 go_at_call 43
                 (try rw [HXI.out])
                 refine (HRX.out _).mono ?_
                 rintro e w9 ⟨rfl, hw9⟩
                 subst w9
                 refine hK _ _ ?_
                 clear hK K
                 refine @BigFrame.wpList_want _ _ _ _ _ _ _ ?hv14498 ?_
                 case hv14498 => kernel_rfl
                 intro K hK
                 go_simp
                 refine hK _ _ ?_
                 clear hK K
                 refine @BigFrame.wpList_want _ _ _ _ _ _ _ ?hv14499 ?_
                 case hv14499 => kernel_rfl
                 intro K hK
                 go_simp
                 refine hK _ _ ?_
                 clear hK K
                 refine @BigFrame.wpList_want _ _ _ _ _ _ _ ?hv14500 ?_
                 case hv14500 => kernel_rfl
                 intro K hK
                 go_simp
                 refine hK _ _ ?_
                 clear hK K
                 refine @BigFrame.wpList_want _ _ _ _ _ _ _ ?hv14501 ?_
                 case hv14501 => kernel_rfl
                 intro K hK
                 go_simp
                 refine hK _ _ ?_
                 clear hK K
                 refine @BigFrame.wpList_want _ _ _ _ _ _ _ ?hv14502 ?_
                 case hv14502 => kernel_rfl
                 intro K hK
                 go_simp
                 refine hK _ _ ?_
                 clear hK K
                 refine @BigFrame.wpList_want _ _ _ _ _ _ _ ?hv14503 ?_
                 case hv14503 => kernel_rfl
                 intro K hK
                 go_simp
                 refine hK _ _ ?_
                 clear hK K
                 refine @BigFrame.wpList_want _ _ _ _ _ _ _ ?hv14504 ?_
                 case hv14504 => kernel_rfl
                 intro K hK
                 go_simp
                 refine hK _ _ ?_
                 clear hK K
                 refine @BigFrame.wpList_want _ _ _ _ _ _ _ ?hv14505 ?_
                 case hv14505 => kernel_rfl
                 intro K hK
                 go_simp
                 refine hK _ _ ?_
                 clear hK K
                 refine @BigFrame.wpList_want _ _ _ _ _ _ _ ?hv14506 ?_
                 case hv14506 => kernel_rfl
                 intro K hK
                 go_simp
                 refine hK _ _ ?_
                 clear hK K
                 refine @BigFrame.wpList_want _ _ _ _ _ _ _ ?hv14507 ?_
                 case hv14507 => kernel_rfl
                 intro K hK
                 go_simp
                 refine hK _ _ ?_
                 clear hK K
                 refine @BigFrame.wpList_want _ _ _ _ _ _ _ ?hv14508 ?_
                 case hv14508 => kernel_rfl
                 intro K hK
                 go_simp
                 refine hK _ _ ?_
                 clear hK K
                 refine @BigFrame.wpList_want _ _ _ _ _ _ _ ?hv14509 ?_
                 case hv14509 => kernel_rfl
                 intro K hK
                 go_simp
                 refine hK _ _ ?_
                 clear hK K
                 refine @BigFrame.wpList_want _ _ _ _ _ _ _ ?hv14510 ?_
                 case hv14510 => kernel_rfl
                 intro K hK
                 go_simp
                 refine hK _ _ ?_
                 clear hK K
                 refine @BigFrame.wpList_want _ _ _ _ _ _ _ ?hv14511 ?_
                 case hv14511 => kernel_rfl
                 intro K hK
                 go_simp
                 refine hK _ _ ?_
                 clear hK K
                 refine @wpList_skip _ _ _ _ _ _ _ ?hv14512 ?_
                 case hv14512 => kernel_rfl
                 simp only [Act.put, List.setIfInBounds_toArray, List.set_cons_zero, List.set_cons_succ]
                 refine @wpList_skip _ _ _ _ _ _ _ ?hv14513 ?_
                 case hv14513 => kernel_rfl
                 simp only [Act.put, List.setIfInBounds_toArray, List.set_cons_zero, List.set_cons_succ]
                 refine @wpList_skip _ _ _ _ _ _ _ ?hv14514 ?_
                 case hv14514 => kernel_rfl
                 simp only [Act.put, List.setIfInBounds_toArray, List.set_cons_zero, List.set_cons_succ]
                 refine @wpList_skip _ _ _ _ _ _ _ ?hv14515 ?_
                 case hv14515 => kernel_rfl
                 simp only [Act.put, List.setIfInBounds_toArray, List.set_cons_zero, List.set_cons_succ]
                 refine @wpList_skip _ _ _ _ _ _ _ ?hv14516 ?_
                 case hv14516 => kernel_rfl
                 simp only [Act.put, List.setIfInBounds_toArray, List.set_cons_zero, List.set_cons_succ]
                 refine @wpList_skip _ _ _ _ _ _ _ ?hv14517 ?_
                 case hv14517 => kernel_rfl
                 simp only [Act.put, List.setIfInBounds_toArray, List.set_cons_zero, List.set_cons_succ]
                 refine @wpList_skip _ _ _ _ _ _ _ ?hv14518 ?_
                 case hv14518 => kernel_rfl
                 simp only [Act.put, List.setIfInBounds_toArray, List.set_cons_zero, List.set_cons_succ]
                 refine @wpList_skip _ _ _ _ _ _ _ ?hv14519 ?_
                 case hv14519 => kernel_rfl
                 simp only [Act.put, List.setIfInBounds_toArray, List.set_cons_zero, List.set_cons_succ]
                 refine @BigFrame.wpList_want _ _ _ _ _ _ _ ?hv14520 ?_
                 case hv14520 => kernel_rfl
                 intro K hK
                 go_simp
                 refine hK _ _ ?_
                 clear hK K
                 refine @BigFrame.wpList_want _ _ _ _ _ _ _ ?hv14521 ?_
                 case hv14521 => kernel_rfl
                 intro K hK
                 go_simp
                 refine hK _ _ ?_
                 clear hK K
                 clear c65 t0 hk0 hcx
                 clear hpxi hpx0 hcn hzb
                 clear hkz hkz1
                 go_wp2
                 go_roundw
                 case rel => exact ⟨k + 1, by simp, (px : Int) + 1, Lib.hid HLK.out, Lib.hid (by
                  rw [HSQ.out, Tt.looseOk, decide_eq_true HGE.out, decide_eq_true HH.out.2, ← HNM.out, HZB.out]
                  rfl), Lib.hid ⟨by have := HH.out.1; omega, fun h => by omega, HNX.out⟩, T3, L3, K3⟩
                 case measure => have := HLK.out; simp [RowKit.intOf]; omega
              ·have HH := Lib.hid hh
               have HRX : Hid (∀ w, Calls Tryz.prog 43 #[.int .i64 (ln : Int), .int .i64 ((2 * i + 1 : Nat) : Int), .int .i64 x] w fun e w' => e = .returned (.bool false) ∧ w' = w) := Lib.hid (fun w => by
                have := HRH.out x w
                rw [show (decide (F ≤ x) && decide (x < B)) = false by rw [Bool.and_eq_false_iff, decide_eq_false_iff_not, decide_eq_false_iff_not]; omega] at this
                exact this)
               clear hh
               refine wp_region_lit ?_
               refine @BigFrame.wpList_want _ _ _ _ _ _ _ ?hv14372 ?_
               case hv14372 => kernel_rfl
               intro K hK
               go_simp
               refine hK _ _ ?_
               clear hK K
               refine @BigFrame.wpList_want _ _ _ _ _ _ _ ?hv14373 ?_
               case hv14373 => kernel_rfl
               intro K hK
               go_simp
               refine hK _ _ ?_
               clear hK K
               refine @BigFrame.wpList_want _ _ _ _ _ _ _ ?hv14374 ?_
               case hv14374 => kernel_rfl
               intro K hK
               go_simp
               refine hK _ _ ?_
               clear hK K
               refine @BigFrame.wpList_want _ _ _ _ _ _ _ ?hv14375 ?_
               case hv14375 => kernel_rfl
               intro K hK
               go_simp
               refine hK _ _ ?_
               clear hK K
               refine @BigFrame.wpList_want _ _ _ _ _ _ _ ?hv14376 ?_
               case hv14376 => kernel_rfl
               intro K hK
               go_simp
               refine hK _ _ ?_
               clear hK K
               refine @BigFrame.wpList_want _ _ _ _ _ _ _ ?hv14377 ?_
               case hv14377 => kernel_rfl
               intro K hK
               go_simp
               go_at_call 43
               (try rw [HXI.out])
               refine (HRX.out _).mono ?_
               rintro e w9 ⟨rfl, hw9⟩
               subst w9
               refine hK _ _ ?_
               clear hK K
               refine @BigFrame.wpList_want _ _ _ _ _ _ _ ?hv14378 ?_
               case hv14378 => kernel_rfl
               intro K hK
               go_simp
               refine hK _ _ ?_
               clear hK K
               refine @BigFrame.wpList_want _ _ _ _ _ _ _ ?hv14379 ?_
               case hv14379 => kernel_rfl
               intro K hK
               go_simp
               refine hK _ _ ?_
               clear hK K
               refine @wpList_skip _ _ _ _ _ _ _ ?hv14380 ?_
               case hv14380 => kernel_rfl
               simp only [Act.put, List.setIfInBounds_toArray, List.set_cons_zero, List.set_cons_succ]
               refine @wpList_skip _ _ _ _ _ _ _ ?hv14381 ?_
               case hv14381 => kernel_rfl
               simp only [Act.put, List.setIfInBounds_toArray, List.set_cons_zero, List.set_cons_succ]
               refine @wpList_skip _ _ _ _ _ _ _ ?hv14382 ?_
               case hv14382 => kernel_rfl
               simp only [Act.put, List.setIfInBounds_toArray, List.set_cons_zero, List.set_cons_succ]
               refine @wpList_skip _ _ _ _ _ _ _ ?hv14383 ?_
               case hv14383 => kernel_rfl
               simp only [Act.put, List.setIfInBounds_toArray, List.set_cons_zero, List.set_cons_succ]
               refine @wpList_skip _ _ _ _ _ _ _ ?hv14384 ?_
               case hv14384 => kernel_rfl
               simp only [Act.put, List.setIfInBounds_toArray, List.set_cons_zero, List.set_cons_succ]
               refine @wpList_skip _ _ _ _ _ _ _ ?hv14385 ?_
               case hv14385 => kernel_rfl
               simp only [Act.put, List.setIfInBounds_toArray, List.set_cons_zero, List.set_cons_succ]
               refine @wpList_skip _ _ _ _ _ _ _ ?hv14386 ?_
               case hv14386 => kernel_rfl
               simp only [Act.put, List.setIfInBounds_toArray, List.set_cons_zero, List.set_cons_succ]
               refine @BigFrame.wpList_want _ _ _ _ _ _ _ ?hv14387 ?_
               case hv14387 => kernel_rfl
               intro K hK
               go_simp
               refine hK _ _ ?_
               clear hK K
               refine @BigFrame.wpList_want _ _ _ _ _ _ _ ?hv14388 ?_
               case hv14388 => kernel_rfl
               intro K hK
               go_simp
               refine hK _ _ ?_
               clear hK K
               refine @wpList_skip _ _ _ _ _ _ _ ?hv14389 ?_
               case hv14389 => kernel_rfl
               simp only [Act.put, List.setIfInBounds_toArray, List.set_cons_zero, List.set_cons_succ]
               refine @wpList_skip _ _ _ _ _ _ _ ?hv14390 ?_
               case hv14390 => kernel_rfl
               simp only [Act.put, List.setIfInBounds_toArray, List.set_cons_zero, List.set_cons_succ]
               refine @wpList_skip _ _ _ _ _ _ _ ?hv14391 ?_
               case hv14391 => kernel_rfl
               simp only [Act.put, List.setIfInBounds_toArray, List.set_cons_zero, List.set_cons_succ]
               refine @wpList_skip _ _ _ _ _ _ _ ?hv14392 ?_
               case hv14392 => kernel_rfl
               simp only [Act.put, List.setIfInBounds_toArray, List.set_cons_zero, List.set_cons_succ]
               refine @wpList_skip _ _ _ _ _ _ _ ?hv14393 ?_
               case hv14393 => kernel_rfl
               simp only [Act.put, List.setIfInBounds_toArray, List.set_cons_zero, List.set_cons_succ]
               refine @wpList_skip _ _ _ _ _ _ _ ?hv14394 ?_
               case hv14394 => kernel_rfl
               simp only [Act.put, List.setIfInBounds_toArray, List.set_cons_zero, List.set_cons_succ]
               refine @wpList_skip _ _ _ _ _ _ _ ?hv14395 ?_
               case hv14395 => kernel_rfl
               simp only [Act.put, List.setIfInBounds_toArray, List.set_cons_zero, List.set_cons_succ]
               refine @wpList_skip _ _ _ _ _ _ _ ?hv14396 ?_
               case hv14396 => kernel_rfl
               simp only [Act.put, List.setIfInBounds_toArray, List.set_cons_zero, List.set_cons_succ]
               refine @wpList_skip _ _ _ _ _ _ _ ?hv14397 ?_
               case hv14397 => kernel_rfl
               simp only [Act.put, List.setIfInBounds_toArray, List.set_cons_zero, List.set_cons_succ]
               refine @wpList_skip _ _ _ _ _ _ _ ?hv14398 ?_
               case hv14398 => kernel_rfl
               simp only [Act.put, List.setIfInBounds_toArray, List.set_cons_zero, List.set_cons_succ]
               refine @wpList_skip _ _ _ _ _ _ _ ?hv14399 ?_
               case hv14399 => kernel_rfl
               simp only [Act.put, List.setIfInBounds_toArray, List.set_cons_zero, List.set_cons_succ]
               refine @wpList_skip _ _ _ _ _ _ _ ?hv14400 ?_
               case hv14400 => kernel_rfl
               simp only [Act.put, List.setIfInBounds_toArray, List.set_cons_zero, List.set_cons_succ]
               refine @BigFrame.wpList_want _ _ _ _ _ _ _ ?hv14401 ?_
               case hv14401 => kernel_rfl
               intro K hK
               go_simp
               refine hK _ _ ?_
               clear hK K
               clear c65 t0 hlti hk0 hcx
               go_wp2
               go_ret
               refine ⟨?_, K3.out⟩
               have hf : Tt.right L P = false := by
                have hq : Tt.looseOk L B F p.loose = false := by
                 rw [HSQ.out]
                 unfold Tt.looseOk
                 by_cases h8 : fr ≤ x
                 ·rw [decide_eq_false (show ¬ x < B from fun h => HH.out ⟨by have := HFR.out.1; omega, h⟩)]
                  simp
                 ·rw [decide_eq_false h8]
                  rfl
                have hl : Tt.parentsOk L 0 P = false := by
                 rw [HST.out, Tt.parentsOk, HX.out, hq]; rfl
                rw [HRT.out, hl]; simp
               rw [hf]; rfl
             ·have hlti : ¬ (k : Int) < (qn : Int) := by omega
              have HOKP : Hid (Tt.parentOk L i p = true) := Lib.hid (by
               rw [HX.out, HLQ.out, List.drop_of_length_le (by have := hk.out; rw [← HQN.out]; omega)]
               rfl)
              clear hlt hk
              go_wp2
              clear hlti c65
              go_roundw
              case rel => exact ⟨i + 1, by simp, Lib.hid HLT.out, Lib.hid (by rw [HST.out, Tt.parentsOk, HOKP.out]; rfl), T3, K3⟩
              case measure => have := HLT.out; simp [RowKit.intOf]; omega
           ·have hq1 : (qn : Int) > 0 := by omega
            have hq2 : 0 < qn := by omega
            have HQ := Lib.hid hq
            clear hq
            go_upto_region 20 with fail
            refine wp_region_lit ?_
            refine @BigFrame.wpList_want _ _ _ _ _ _ _ ?hw14522 ?_
            case hw14522 => kernel_rfl
            intro K hK
            go_simp
            refine hK _ _ ?_
            clear hK K
            refine @BigFrame.wpList_want _ _ _ _ _ _ _ ?hw14523 ?_
            case hw14523 => kernel_rfl
            intro K hK
            go_simp
            refine hK _ _ ?_
            clear hK K
            refine @BigFrame.wpList_want _ _ _ _ _ _ _ ?hw14524 ?_
            case hw14524 => kernel_rfl
            intro K hK
            go_simp
            refine hK _ _ ?_
            clear hK K
            refine @BigFrame.wpList_want _ _ _ _ _ _ _ ?hw14525 ?_
            case hw14525 => kernel_rfl
            intro K hK
            go_simp
            refine hK _ _ ?_
            clear hK K
            refine @BigFrame.wpList_want _ _ _ _ _ _ _ ?hw14526 ?_
            case hw14526 => kernel_rfl
            intro K hK
            go_simp
            refine hK _ _ ?_
            clear hK K
            refine @wpList_load_known _ _ _ _ _ _ _ ?hw14527 39 (.tmp 89) rfl (lb) (1) rfl (.agg DP) (HPB.out) ?_
            case hw14527 => kernel_rfl
            simp only [Act.put, List.setIfInBounds_toArray, List.set_cons_zero, List.set_cons_succ]
            refine @wpL_build0 _ _ _ _ _ _ _ ?hw14528 39 rfl _ (build_zh _) ?_
            case hw14528 => kernel_rfl
            simp only [Act.put, List.setIfInBounds_toArray, List.set_cons_zero, List.set_cons_succ]
            refine @BigFrame.wpList_want _ _ _ _ _ _ _ ?hw14529 ?_
            case hw14529 => kernel_rfl
            intro K hK
            go_simp
            refine hK _ _ ?_
            clear hK K
            refine @BigFrame.wpList_want _ _ _ _ _ _ _ ?hw14530 ?_
            case hw14530 => kernel_rfl
            intro K hK
            go_simp
            refine hK _ _ ?_
            clear hK K
            refine @BigFrame.wpList_want _ _ _ _ _ _ _ ?hw14531 ?_
            case hw14531 => kernel_rfl
            intro K hK
            go_simp
            refine hK _ _ ?_
            clear hK K
            refine @wpList_load_known _ _ _ _ _ _ _ ?hw14532 39 (.tmp 94) rfl (lb) (33) rfl (.agg DA) (HAB.out) ?_
            case hw14532 => kernel_rfl
            simp only [Act.put, List.setIfInBounds_toArray, List.set_cons_zero, List.set_cons_succ]
            refine @wpL_build0 _ _ _ _ _ _ _ ?hw14533 39 rfl _ (build_zh _) ?_
            case hw14533 => kernel_rfl
            simp only [Act.put, List.setIfInBounds_toArray, List.set_cons_zero, List.set_cons_succ]
            refine @BigFrame.wpList_want _ _ _ _ _ _ _ ?hw14534 ?_
            case hw14534 => kernel_rfl
            intro K hK
            go_simp
            refine hK _ _ ?_
            clear hK K
            refine @BigFrame.wpList_want _ _ _ _ _ _ _ ?hw14535 ?_
            case hw14535 => kernel_rfl
            intro K hK
            go_simp
            refine hK _ _ ?_
            clear hK K
            refine @BigFrame.wpList_want _ _ _ _ _ _ _ ?hw14536 ?_
            case hw14536 => kernel_rfl
            intro K hK
            go_simp
            refine hK _ _ ?_
            clear hK K
            refine @BigFrame.wpList_want _ _ _ _ _ _ _ ?hw14537 ?_
            case hw14537 => kernel_rfl
            intro K hK
            go_simp
            refine hK _ _ ?_
            clear hK K
            refine @BigFrame.wpList_want _ _ _ _ _ _ _ ?hw14538 ?_
            case hw14538 => kernel_rfl
            intro K hK
            go_simp
            refine hK _ _ ?_
            clear hK K
            refine @BigFrame.wpList_want _ _ _ _ _ _ _ ?hw14539 ?_
            case hw14539 => kernel_rfl
            intro K hK
            go_simp
            refine hK _ _ ?_
            clear hK K
            refine @BigFrame.wpList_want _ _ _ _ _ _ _ ?hw14540 ?_
            case hw14540 => kernel_rfl
            intro K hK
            go_simp
            refine hK _ _ ?_
            clear hK K
            refine @BigFrame.wpList_want _ _ _ _ _ _ _ ?hw14541 ?_
            case hw14541 => kernel_rfl
            intro K hK
            go_simp
            refine hK _ _ ?_
            clear hK K
            refine @BigFrame.wpList_want _ _ _ _ _ _ _ ?hw14542 ?_
            case hw14542 => kernel_rfl
            intro K hK
            go_simp
            refine hK _ _ ?_
            clear hK K
            clear he1 he2 gd c0 c65
            clear hq1 hq2
            go_wp2
            go_ret
            refine ⟨?_, K2.out⟩
            have hf : Tt.right L P = false := by
             have hl : Tt.parentsOk L 0 P = false := by
              rw [HST.out, Tt.parentsOk, show Tt.parentOk L i p = false by rw [Tt.parentOk, ← HSE.out, if_neg Bool.false_ne_true, ← HBP.out, ← HBA.out, ← HQN.out]; simp [HQ.out]]; rfl
             rw [HRT.out, hl]; simp
            rw [hf]; rfl
       ·have hnl : ¬ (i : Int) < (pn : Int) := by omega
        have HPO : Hid (Tt.parentsOk L 0 P = true) := Lib.hid (by
         rw [HEQ.out, List.drop_of_length_le (by have := hi.out; rw [← HPN.out]; omega)]
         rfl)
        clear hlt hi HEQ
        have t0 := two_cell0 HTB.out
        have HTL := Lib.hid (show Tt.right L P = !Tt.lastBlank L by rw [HRT.out, HLO.out, HPO.out, Bool.and_true, Bool.and_true])
        by_cases h0 : 0 < ln
        ·have h0z : ((ln : Int) == 0) = false := by rw [beq_eq_false_iff_ne]; omega
         obtain ⟨k, hk⟩ : ∃ k, k = ln - 1 := ⟨_, rfl⟩
         have hll : k < L.length := by rw [← HLN.out]; omega
         obtain ⟨rfl, hg, hok, hr⟩ := HC.out k hll
         have hnm : Tt.lastBlank L = (L[k].name == 0) := by
          unfold Tt.lastBlank
          rw [← HLN.out, decide_eq_true h0, ← hk, Tt.nameAt_eq hll]
          rfl
         have hwk : IntKind.i64.wrap ((ln : Int) - 1) = (k : Int) := by rw [IntKind.wrap_i64]; omega
         have hkl : (k : Int) < (ln : Int) := by omega
         have hk0 : ¬ (k : Int) < 0 := by omega
         have hck0 : w.cell? ⟨g, o + k * 97, none⟩ = some (.int .i64 L[k].name) := hr 0 _ (by simp [Lf.cells])
         have hck := (HK.out.cell (p := ⟨g, o + k * 97, none⟩) hg (Nat.ne_of_lt hg)).trans hck0
         obtain ⟨nm, hN⟩ : ∃ nm, nm = L[k].name := ⟨_, rfl⟩
         rw [← hN] at hck hnm
         have HNM := Lib.hid hnm
         clear hck0 hr hok hnm hg hN hll hk h0
         go_upto_region 28 with fail
         clear t1
         refine wp_region_lit ?_
         refine @BigFrame.wpList_want _ _ _ _ _ _ _ ?hw14106 ?_
         case hw14106 => kernel_rfl
         intro K hK
         go_simp
         refine hK _ _ ?_
         clear hK K
         refine @BigFrame.wpList_want _ _ _ _ _ _ _ ?hw14107 ?_
         case hw14107 => kernel_rfl
         intro K hK
         go_simp
         refine hK _ _ ?_
         clear hK K
         refine @BigFrame.wpList_want _ _ _ _ _ _ _ ?hw14108 ?_
         case hw14108 => kernel_rfl
         intro K hK
         go_simp
         refine hK _ _ ?_
         clear hK K
         refine @BigFrame.wpList_want _ _ _ _ _ _ _ ?hw14109 ?_
         case hw14109 => kernel_rfl
         intro K hK
         go_simp
         refine hK _ _ ?_
         clear hK K
         refine @BigFrame.wpList_want _ _ _ _ _ _ _ ?hw14110 ?_
         case hw14110 => kernel_rfl
         intro K hK
         go_simp
         refine hK _ _ ?_
         clear hK K
         refine @BigFrame.wpList_want _ _ _ _ _ _ _ ?hw14111 ?_
         case hw14111 => kernel_rfl
         intro K hK
         go_simp
         refine hK _ _ ?_
         clear hK K
         refine @BigFrame.wpList_want _ _ _ _ _ _ _ ?hw14112 ?_
         case hw14112 => kernel_rfl
         intro K hK
         go_simp
         refine hK _ _ ?_
         clear hK K
         refine @BigFrame.wpList_want _ _ _ _ _ _ _ ?hw14113 ?_
         case hw14113 => kernel_rfl
         intro K hK
         go_simp
         refine hK _ _ ?_
         clear hK K
         refine @BigFrame.wpList_want _ _ _ _ _ _ _ ?hw14114 ?_
         case hw14114 => kernel_rfl
         intro K hK
         go_simp
         refine hK _ _ ?_
         clear hK K
         refine @BigFrame.wpList_want _ _ _ _ _ _ _ ?hw14115 ?_
         case hw14115 => kernel_rfl
         intro K hK
         go_simp
         refine hK _ _ ?_
         clear hK K
         refine @BigFrame.wpList_want _ _ _ _ _ _ _ ?hw14116 ?_
         case hw14116 => kernel_rfl
         intro K hK
         go_simp
         refine hK _ _ ?_
         clear hK K
         refine @BigFrame.wpList_want _ _ _ _ _ _ _ ?hw14117 ?_
         case hw14117 => kernel_rfl
         intro K hK
         go_simp
         refine hK _ _ ?_
         clear hK K
         refine @BigFrame.wpList_want _ _ _ _ _ _ _ ?hw14118 ?_
         case hw14118 => kernel_rfl
         intro K hK
         go_simp
         refine hK _ _ ?_
         clear hK K
         clear t0 hnl h0z hwk hkl hk0 hck
         go_wp2
         go_ret
         refine ⟨?_, HK.out⟩
         rw [HTL.out, HNM.out]; rfl
        ·have h0z : ((ln : Int) == 0) = true := by rw [beq_iff_eq]; omega
         have HLB : Hid (Tt.lastBlank L = false) := Lib.hid (by
          unfold Tt.lastBlank
          rw [← HLN.out, decide_eq_false h0]; rfl)
         clear h0
         go_upto_region 28 with fail
         clear t1
         refine wp_region_lit ?_
         refine @BigFrame.wpList_want _ _ _ _ _ _ _ ?hw14119 ?_
         case hw14119 => kernel_rfl
         intro K hK
         go_simp
         refine hK _ _ ?_
         clear hK K
         refine @BigFrame.wpList_want _ _ _ _ _ _ _ ?hw14120 ?_
         case hw14120 => kernel_rfl
         intro K hK
         go_simp
         refine hK _ _ ?_
         clear hK K
         refine @BigFrame.wpList_want _ _ _ _ _ _ _ ?hw14121 ?_
         case hw14121 => kernel_rfl
         intro K hK
         go_simp
         refine hK _ _ ?_
         clear hK K
         refine @wpList_skip _ _ _ _ _ _ _ ?hw14122 ?_
         case hw14122 => kernel_rfl
         simp only [Act.put, List.setIfInBounds_toArray, List.set_cons_zero, List.set_cons_succ]
         refine @wpList_skip _ _ _ _ _ _ _ ?hw14123 ?_
         case hw14123 => kernel_rfl
         simp only [Act.put, List.setIfInBounds_toArray, List.set_cons_zero, List.set_cons_succ]
         refine @wpList_skip _ _ _ _ _ _ _ ?hw14124 ?_
         case hw14124 => kernel_rfl
         simp only [Act.put, List.setIfInBounds_toArray, List.set_cons_zero, List.set_cons_succ]
         refine @wpList_skip _ _ _ _ _ _ _ ?hw14125 ?_
         case hw14125 => kernel_rfl
         simp only [Act.put, List.setIfInBounds_toArray, List.set_cons_zero, List.set_cons_succ]
         refine @wpList_skip _ _ _ _ _ _ _ ?hw14126 ?_
         case hw14126 => kernel_rfl
         simp only [Act.put, List.setIfInBounds_toArray, List.set_cons_zero, List.set_cons_succ]
         refine @wpList_skip _ _ _ _ _ _ _ ?hw14127 ?_
         case hw14127 => kernel_rfl
         simp only [Act.put, List.setIfInBounds_toArray, List.set_cons_zero, List.set_cons_succ]
         refine @wpList_skip _ _ _ _ _ _ _ ?hw14128 ?_
         case hw14128 => kernel_rfl
         simp only [Act.put, List.setIfInBounds_toArray, List.set_cons_zero, List.set_cons_succ]
         refine @wpList_skip _ _ _ _ _ _ _ ?hw14129 ?_
         case hw14129 => kernel_rfl
         simp only [Act.put, List.setIfInBounds_toArray, List.set_cons_zero, List.set_cons_succ]
         refine @BigFrame.wpList_want _ _ _ _ _ _ _ ?hw14130 ?_
         case hw14130 => kernel_rfl
         intro K hK
         go_simp
         refine hK _ _ ?_
         clear hK K
         refine @BigFrame.wpList_want _ _ _ _ _ _ _ ?hw14131 ?_
         case hw14131 => kernel_rfl
         intro K hK
         go_simp
         refine hK _ _ ?_
         clear hK K
         clear t0 hnl h0z
         go_wp2
         go_ret
         refine ⟨?_, HK.out⟩
         rw [HTL.out, HLB.out]; rfl
   ·have h2n : ((pn : Int) != ((ln : Int) - 1)) = true := by rw [bne, show ((pn : Int) == ((ln : Int) - 1)) = false by rw [beq_eq_false_iff_ne]; omega]; rfl
    have h2m : ((pn : Int) != ((ln - 1 : Nat) : Int)) = true := by rw [bne, show ((pn : Int) == ((ln - 1 : Nat) : Int)) = false by rw [beq_eq_false_iff_ne]; omega]; rfl
    have H2 := Lib.hid h2
    refine wp_region_lit ?_
    refine @BigFrame.wpList_want _ _ _ _ _ _ _ ?hw14025 ?_
    case hw14025 => kernel_rfl
    intro K hK
    go_simp
    refine hK _ _ ?_
    clear hK K
    refine @BigFrame.wpList_want _ _ _ _ _ _ _ ?hw14026 ?_
    case hw14026 => kernel_rfl
    intro K hK
    go_simp
    refine hK _ _ ?_
    clear hK K
    refine @BigFrame.wpList_want _ _ _ _ _ _ _ ?hw14027 ?_
    case hw14027 => kernel_rfl
    intro K hK
    go_simp
    refine hK _ _ ?_
    clear hK K
    refine @BigFrame.wpList_want _ _ _ _ _ _ _ ?hw14028 ?_
    case hw14028 => kernel_rfl
    intro K hK
    go_simp
    refine hK _ _ ?_
    clear hK K
    refine @BigFrame.wpList_want _ _ _ _ _ _ _ ?hw14029 ?_
    case hw14029 => kernel_rfl
    intro K hK
    go_simp
    refine hK _ _ ?_
    clear hK K
    refine @BigFrame.wpList_want _ _ _ _ _ _ _ ?hw14030 ?_
    case hw14030 => kernel_rfl
    intro K hK
    go_simp
    refine hK _ _ ?_
    clear hK K
    refine @BigFrame.wpList_want _ _ _ _ _ _ _ ?hw14031 ?_
    case hw14031 => kernel_rfl
    intro K hK
    go_simp
    refine hK _ _ ?_
    clear hK K
    refine @BigFrame.wpList_want _ _ _ _ _ _ _ ?hw14032 ?_
    case hw14032 => kernel_rfl
    intro K hK
    go_simp
    refine hK _ _ ?_
    clear hK K
    refine @BigFrame.wpList_want _ _ _ _ _ _ _ ?hw14033 ?_
    case hw14033 => kernel_rfl
    intro K hK
    go_simp
    refine hK _ _ ?_
    clear hK K
    refine @BigFrame.wpList_want _ _ _ _ _ _ _ ?hw14034 ?_
    case hw14034 => kernel_rfl
    intro K hK
    go_simp
    refine hK _ _ ?_
    clear hK K
    refine @BigFrame.wpList_want _ _ _ _ _ _ _ ?hw14035 ?_
    case hw14035 => kernel_rfl
    intro K hK
    go_simp
    refine hK _ _ ?_
    clear hK K
    refine @BigFrame.wpList_want _ _ _ _ _ _ _ ?hw14036 ?_
    case hw14036 => kernel_rfl
    intro K hK
    go_simp
    refine hK _ _ ?_
    clear hK K
    refine @BigFrame.wpList_want _ _ _ _ _ _ _ ?hw14037 ?_
    case hw14037 => kernel_rfl
    intro K hK
    go_simp
    refine hK _ _ ?_
    clear hK K
    refine @BigFrame.wpList_want _ _ _ _ _ _ _ ?hw14038 ?_
    case hw14038 => kernel_rfl
    intro K hK
    go_simp
    refine hK _ _ ?_
    clear hK K
    refine @BigFrame.wpList_want _ _ _ _ _ _ _ ?hw14039 ?_
    case hw14039 => kernel_rfl
    intro K hK
    go_simp
    refine hK _ _ ?_
    clear hK K
    refine @wpList_skip _ _ _ _ _ _ _ ?hw14040 ?_
    case hw14040 => kernel_rfl
    simp only [Act.put, List.setIfInBounds_toArray, List.set_cons_zero, List.set_cons_succ]
    refine @wpList_skip _ _ _ _ _ _ _ ?hw14041 ?_
    case hw14041 => kernel_rfl
    simp only [Act.put, List.setIfInBounds_toArray, List.set_cons_zero, List.set_cons_succ]
    refine @wpList_skip _ _ _ _ _ _ _ ?hw14042 ?_
    case hw14042 => kernel_rfl
    simp only [Act.put, List.setIfInBounds_toArray, List.set_cons_zero, List.set_cons_succ]
    refine @wpList_skip _ _ _ _ _ _ _ ?hw14043 ?_
    case hw14043 => kernel_rfl
    simp only [Act.put, List.setIfInBounds_toArray, List.set_cons_zero, List.set_cons_succ]
    refine @wpList_skip _ _ _ _ _ _ _ ?hw14044 ?_
    case hw14044 => kernel_rfl
    simp only [Act.put, List.setIfInBounds_toArray, List.set_cons_zero, List.set_cons_succ]
    refine @wpList_skip _ _ _ _ _ _ _ ?hw14045 ?_
    case hw14045 => kernel_rfl
    simp only [Act.put, List.setIfInBounds_toArray, List.set_cons_zero, List.set_cons_succ]
    refine @wpList_skip _ _ _ _ _ _ _ ?hw14046 ?_
    case hw14046 => kernel_rfl
    simp only [Act.put, List.setIfInBounds_toArray, List.set_cons_zero, List.set_cons_succ]
    refine @wpList_skip _ _ _ _ _ _ _ ?hw14047 ?_
    case hw14047 => kernel_rfl
    simp only [Act.put, List.setIfInBounds_toArray, List.set_cons_zero, List.set_cons_succ]
    refine @BigFrame.wpList_want _ _ _ _ _ _ _ ?hw14048 ?_
    case hw14048 => kernel_rfl
    intro K hK
    go_simp
    refine hK _ _ ?_
    clear hK K
    clear h1 h1i
    clear h0 h0i h0z h0w h2 h2n h2m
    go_wp2
    go_ret
    refine ⟨?_, K1.out⟩
    have hf : Tt.right L P = false := by
     rw [Tt.right, decide_eq_false (show ¬ P.length = L.length - 1 by have := H2.out; rw [HLN.out, HPN.out] at this; exact this)]; simp
    rw [hf]; rfl
  ·have h0i : ¬ (ln : Int) > 0 := by omega
   have h0n : ¬ 0 < ln := h0
   have h0z : ((ln : Int) == 0) = true := by rw [beq_iff_eq]; omega
   by_cases h2 : 0 < pn
   ·have h2i : (pn : Int) > 0 := by omega
    have H2 := Lib.hid (show ¬ pn = ln - 1 by omega)
    refine wp_region_lit ?_
    refine @BigFrame.wpList_want _ _ _ _ _ _ _ ?hw14049 ?_
    case hw14049 => kernel_rfl
    intro K hK
    go_simp
    refine hK _ _ ?_
    clear hK K
    refine @BigFrame.wpList_want _ _ _ _ _ _ _ ?hw14050 ?_
    case hw14050 => kernel_rfl
    intro K hK
    go_simp
    refine hK _ _ ?_
    clear hK K
    refine @BigFrame.wpList_want _ _ _ _ _ _ _ ?hw14051 ?_
    case hw14051 => kernel_rfl
    intro K hK
    go_simp
    refine hK _ _ ?_
    clear hK K
    refine @BigFrame.wpList_want _ _ _ _ _ _ _ ?hw14052 ?_
    case hw14052 => kernel_rfl
    intro K hK
    go_simp
    refine hK _ _ ?_
    clear hK K
    refine @BigFrame.wpList_want _ _ _ _ _ _ _ ?hw14053 ?_
    case hw14053 => kernel_rfl
    intro K hK
    go_simp
    refine hK _ _ ?_
    clear hK K
    refine @BigFrame.wpList_want _ _ _ _ _ _ _ ?hw14054 ?_
    case hw14054 => kernel_rfl
    intro K hK
    go_simp
    refine hK _ _ ?_
    clear hK K
    refine @wpList_skip _ _ _ _ _ _ _ ?hw14055 ?_
    case hw14055 => kernel_rfl
    simp only [Act.put, List.setIfInBounds_toArray, List.set_cons_zero, List.set_cons_succ]
    refine @wpList_skip _ _ _ _ _ _ _ ?hw14056 ?_
    case hw14056 => kernel_rfl
    simp only [Act.put, List.setIfInBounds_toArray, List.set_cons_zero, List.set_cons_succ]
    refine @wpList_skip _ _ _ _ _ _ _ ?hw14057 ?_
    case hw14057 => kernel_rfl
    simp only [Act.put, List.setIfInBounds_toArray, List.set_cons_zero, List.set_cons_succ]
    refine @wpList_skip _ _ _ _ _ _ _ ?hw14058 ?_
    case hw14058 => kernel_rfl
    simp only [Act.put, List.setIfInBounds_toArray, List.set_cons_zero, List.set_cons_succ]
    refine @wpList_skip _ _ _ _ _ _ _ ?hw14059 ?_
    case hw14059 => kernel_rfl
    simp only [Act.put, List.setIfInBounds_toArray, List.set_cons_zero, List.set_cons_succ]
    refine @wpList_skip _ _ _ _ _ _ _ ?hw14060 ?_
    case hw14060 => kernel_rfl
    simp only [Act.put, List.setIfInBounds_toArray, List.set_cons_zero, List.set_cons_succ]
    refine @BigFrame.wpList_want _ _ _ _ _ _ _ ?hw14061 ?_
    case hw14061 => kernel_rfl
    intro K hK
    go_simp
    refine hK _ _ ?_
    clear hK K
    refine @BigFrame.wpList_want _ _ _ _ _ _ _ ?hw14062 ?_
    case hw14062 => kernel_rfl
    intro K hK
    go_simp
    refine hK _ _ ?_
    clear hK K
    refine @BigFrame.wpList_want _ _ _ _ _ _ _ ?hw14063 ?_
    case hw14063 => kernel_rfl
    intro K hK
    go_simp
    refine hK _ _ ?_
    clear hK K
    refine @BigFrame.wpList_want _ _ _ _ _ _ _ ?hw14064 ?_
    case hw14064 => kernel_rfl
    intro K hK
    go_simp
    refine hK _ _ ?_
    clear hK K
    refine @BigFrame.wpList_want _ _ _ _ _ _ _ ?hw14065 ?_
    case hw14065 => kernel_rfl
    intro K hK
    go_simp
    refine hK _ _ ?_
    clear hK K
    refine @BigFrame.wpList_want _ _ _ _ _ _ _ ?hw14066 ?_
    case hw14066 => kernel_rfl
    intro K hK
    go_simp
    refine hK _ _ ?_
    clear hK K
    refine @BigFrame.wpList_want _ _ _ _ _ _ _ ?hw14067 ?_
    case hw14067 => kernel_rfl
    intro K hK
    go_simp
    refine hK _ _ ?_
    clear hK K
    refine @BigFrame.wpList_want _ _ _ _ _ _ _ ?hw14068 ?_
    case hw14068 => kernel_rfl
    intro K hK
    go_simp
    refine hK _ _ ?_
    clear hK K
    refine @BigFrame.wpList_want _ _ _ _ _ _ _ ?hw14069 ?_
    case hw14069 => kernel_rfl
    intro K hK
    go_simp
    refine hK _ _ ?_
    clear hK K
    refine @BigFrame.wpList_want _ _ _ _ _ _ _ ?hw14070 ?_
    case hw14070 => kernel_rfl
    intro K hK
    go_simp
    refine hK _ _ ?_
    clear hK K
    refine @BigFrame.wpList_want _ _ _ _ _ _ _ ?hw14071 ?_
    case hw14071 => kernel_rfl
    intro K hK
    go_simp
    refine hK _ _ ?_
    clear hK K
    refine @BigFrame.wpList_want _ _ _ _ _ _ _ ?hw14072 ?_
    case hw14072 => kernel_rfl
    intro K hK
    go_simp
    refine hK _ _ ?_
    clear hK K
    clear h1 h1i
    clear h0 h0i h0z h2 h2i h0n
    go_wp2
    go_ret
    refine ⟨?_, K1.out⟩
    have hf : Tt.right L P = false := by
     rw [Tt.right, decide_eq_false (show ¬ P.length = L.length - 1 by have := H2.out; rw [HLN.out, HPN.out] at this; exact this)]; simp
    rw [hf]; rfl
   ·have h2i : ¬ (pn : Int) > 0 := by omega
    have H2 := Lib.hid (show pn = ln - 1 by omega)
    refine wp_region_lit ?_
    refine @BigFrame.wpList_want _ _ _ _ _ _ _ ?hw18438 ?_
    case hw18438 => kernel_rfl
    intro K hK
    go_simp
    refine hK _ _ ?_
    clear hK K
    refine @BigFrame.wpList_want _ _ _ _ _ _ _ ?hw18439 ?_
    case hw18439 => kernel_rfl
    intro K hK
    go_simp
    refine hK _ _ ?_
    clear hK K
    refine @BigFrame.wpList_want _ _ _ _ _ _ _ ?hw18440 ?_
    case hw18440 => kernel_rfl
    intro K hK
    go_simp
    refine hK _ _ ?_
    clear hK K
    refine @BigFrame.wpList_want _ _ _ _ _ _ _ ?hw18441 ?_
    case hw18441 => kernel_rfl
    intro K hK
    go_simp
    refine hK _ _ ?_
    clear hK K
    refine @BigFrame.wpList_want _ _ _ _ _ _ _ ?hw18442 ?_
    case hw18442 => kernel_rfl
    intro K hK
    go_simp
    refine hK _ _ ?_
    clear hK K
    refine @BigFrame.wpList_want _ _ _ _ _ _ _ ?hw18443 ?_
    case hw18443 => kernel_rfl
    intro K hK
    go_simp
    refine hK _ _ ?_
    clear hK K
    refine @wpList_skip _ _ _ _ _ _ _ ?hw18444 ?_
    case hw18444 => kernel_rfl
    simp only [Act.put, List.setIfInBounds_toArray, List.set_cons_zero, List.set_cons_succ]
    refine @wpList_skip _ _ _ _ _ _ _ ?hw18445 ?_
    case hw18445 => kernel_rfl
    simp only [Act.put, List.setIfInBounds_toArray, List.set_cons_zero, List.set_cons_succ]
    refine @wpList_skip _ _ _ _ _ _ _ ?hw18446 ?_
    case hw18446 => kernel_rfl
    simp only [Act.put, List.setIfInBounds_toArray, List.set_cons_zero, List.set_cons_succ]
    refine @wpList_skip _ _ _ _ _ _ _ ?hw18447 ?_
    case hw18447 => kernel_rfl
    simp only [Act.put, List.setIfInBounds_toArray, List.set_cons_zero, List.set_cons_succ]
    refine @wpList_skip _ _ _ _ _ _ _ ?hw18448 ?_
    case hw18448 => kernel_rfl
    simp only [Act.put, List.setIfInBounds_toArray, List.set_cons_zero, List.set_cons_succ]
    refine @wpList_skip _ _ _ _ _ _ _ ?hw18449 ?_
    case hw18449 => kernel_rfl
    simp only [Act.put, List.setIfInBounds_toArray, List.set_cons_zero, List.set_cons_succ]
    refine @BigFrame.wpList_want _ _ _ _ _ _ _ ?hw18450 ?_
    case hw18450 => kernel_rfl
    intro K hK
    go_simp
    refine hK _ _ ?_
    clear hK K
    refine @BigFrame.wpList_want _ _ _ _ _ _ _ ?hw18451 ?_
    case hw18451 => kernel_rfl
    intro K hK
    go_simp
    refine hK _ _ ?_
    clear hK K
    refine @BigFrame.wpList_want _ _ _ _ _ _ _ ?hw18452 ?_
    case hw18452 => kernel_rfl
    intro K hK
    go_simp
    refine hK _ _ ?_
    clear hK K
    refine @BigFrame.wpList_want _ _ _ _ _ _ _ ?hw18453 ?_
    case hw18453 => kernel_rfl
    intro K hK
    go_simp
    refine hK _ _ ?_
    clear hK K
    refine @BigFrame.wpList_want _ _ _ _ _ _ _ ?hw18454 ?_
    case hw18454 => kernel_rfl
    intro K hK
    go_simp
    refine hK _ _ ?_
    clear hK K
    refine @BigFrame.wpList_want _ _ _ _ _ _ _ ?hw18455 ?_
    case hw18455 => kernel_rfl
    intro K hK
    go_simp
    refine hK _ _ ?_
    clear hK K
    refine @BigFrame.wpList_want _ _ _ _ _ _ _ ?hw18456 ?_
    case hw18456 => kernel_rfl
    intro K hK
    go_simp
    refine hK _ _ ?_
    clear hK K
    refine @BigFrame.wpList_want _ _ _ _ _ _ _ ?hw18457 ?_
    case hw18457 => kernel_rfl
    intro K hK
    go_simp
    refine hK _ _ ?_
    clear hK K
    refine @BigFrame.wpList_want _ _ _ _ _ _ _ ?hw18458 ?_
    case hw18458 => kernel_rfl
    intro K hK
    go_simp
    refine hK _ _ ?_
    clear hK K
    refine @BigFrame.wpList_want _ _ _ _ _ _ _ ?hw18459 ?_
    case hw18459 => kernel_rfl
    intro K hK
    go_simp
    refine hK _ _ ?_
    clear hK K
    refine @BigFrame.wpList_want _ _ _ _ _ _ _ ?hw18460 ?_
    case hw18460 => kernel_rfl
    intro K hK
    go_simp
    refine hK _ _ ?_
    clear hK K
    refine @BigFrame.wpList_want _ _ _ _ _ _ _ ?hw18461 ?_
    case hw18461 => kernel_rfl
    intro K hK
    go_simp
    refine hK _ _ ?_
    clear hK K
    clear h1 h1i
    have H0 := Lib.hid h0n
    clear h0 h0i h0n h0z h2 h2i
    have HRT := Lib.hid (Tt.right_tail (L := L) (P := P) (by rw [← HLN.out]; exact H1.out) (by rw [← HLN.out, ← HPN.out]; exact H2.out))
    have hb9 : (ln : Int) ≤ 64 := by have := H1.out; omega
    have hp9 : (pn : Int) ≤ 64 := by have := H1.out; have := H2.out; omega
    go_wp2
    clear t0 t1
    go_loopw [4] (fun s4 wr => ∃ i : Nat, s4 = .int .i64 (i : Int) ∧ ∃ M : List Int, Hid (i ≤ ln) ∧ Hid (Tt.leavesOk [] L = Tt.leavesOk M (L.drop i)) ∧ Hid (∀ y, 1 ≤ y → M.contains y = (L.take i).any (fun l => l.name == y)) ∧ Hid (wr.heap[tb]? = some (.cells #[.slice ad ln c, .slice pad pn pc] 27 (0, 0))) ∧ Hid (Kept w.heap.size w.heap.size w wr)) (fun s4 _ => ln - (RowKit.intOf s4).toNat)
    case atStart => exact ⟨0, rfl, [], Lib.hid (Nat.zero_le _), Lib.hid rfl, Lib.hid (fun _ _ => rfl), T1, K1⟩
    case round =>
     obtain ⟨i, rfl, M, hi, HEQ, HME, HTB, HK⟩ := hrel
     by_cases hlt : i < ln
     ·exact absurd hlt (by have := H0.out; omega)
     ·have hnl : ¬ (i : Int) < (ln : Int) := by omega
      have HLO : Hid (Tt.leavesOk [] L = true) := Lib.hid (by
       rw [HEQ.out, List.drop_of_length_le (by have := hi.out; rw [← HLN.out]; omega)]
       rfl)
      clear hlt hi HEQ HME
      have t1 := two_cell1 HTB.out
      go_wp2
      clear hnl t1
      go_loopw [7] (fun s7 wr => ∃ i : Nat, s7 = .int .i64 (i : Int) ∧ Hid (i ≤ pn) ∧ Hid (Tt.parentsOk L 0 P = Tt.parentsOk L i (P.drop i)) ∧ Hid (wr.heap[tb]? = some (.cells #[.slice ad ln c, .slice pad pn pc] 27 (0, 0))) ∧ Hid (Kept w.heap.size w.heap.size w wr)) (fun s7 _ => pn - (RowKit.intOf s7).toNat)
      case atStart => exact ⟨0, rfl, Lib.hid (Nat.zero_le _), Lib.hid rfl, HTB, HK⟩
      case round =>
       clear HTB HK
       obtain ⟨i, rfl, hi, HEQ, HTB, HK⟩ := hrel
       have t1 := two_cell1 HTB.out
       by_cases hlt : i < pn
       ·exact absurd hlt (by have := H0.out; have := H2.out; omega)
       ·have hnl : ¬ (i : Int) < (pn : Int) := by omega
        have HPO : Hid (Tt.parentsOk L 0 P = true) := Lib.hid (by
         rw [HEQ.out, List.drop_of_length_le (by have := hi.out; rw [← HPN.out]; omega)]
         rfl)
        clear hlt hi HEQ
        have t0 := two_cell0 HTB.out
        have HTL := Lib.hid (show Tt.right L P = !Tt.lastBlank L by rw [HRT.out, HLO.out, HPO.out, Bool.and_true, Bool.and_true])
        by_cases h0 : 0 < ln
        ·have h0z : ((ln : Int) == 0) = false := by rw [beq_eq_false_iff_ne]; omega
         obtain ⟨k, hk⟩ : ∃ k, k = ln - 1 := ⟨_, rfl⟩
         have hll : k < L.length := by rw [← HLN.out]; omega
         obtain ⟨rfl, hg, hok, hr⟩ := HC.out k hll
         have hnm : Tt.lastBlank L = (L[k].name == 0) := by
          unfold Tt.lastBlank
          rw [← HLN.out, decide_eq_true h0, ← hk, Tt.nameAt_eq hll]
          rfl
         have hwk : IntKind.i64.wrap ((ln : Int) - 1) = (k : Int) := by rw [IntKind.wrap_i64]; omega
         have hkl : (k : Int) < (ln : Int) := by omega
         have hk0 : ¬ (k : Int) < 0 := by omega
         have hck0 : w.cell? ⟨g, o + k * 97, none⟩ = some (.int .i64 L[k].name) := hr 0 _ (by simp [Lf.cells])
         have hck := (HK.out.cell (p := ⟨g, o + k * 97, none⟩) hg (Nat.ne_of_lt hg)).trans hck0
         obtain ⟨nm, hN⟩ : ∃ nm, nm = L[k].name := ⟨_, rfl⟩
         rw [← hN] at hck hnm
         have HNM := Lib.hid hnm
         clear hck0 hr hok hnm hg hN hll hk h0
         go_upto_region 28 with fail
         clear t1
         refine wp_region_lit ?_
         refine @BigFrame.wpList_want _ _ _ _ _ _ _ ?hx18001 ?_
         case hx18001 => kernel_rfl
         intro K hK
         go_simp
         refine hK _ _ ?_
         clear hK K
         refine @BigFrame.wpList_want _ _ _ _ _ _ _ ?hx18002 ?_
         case hx18002 => kernel_rfl
         intro K hK
         go_simp
         refine hK _ _ ?_
         clear hK K
         refine @BigFrame.wpList_want _ _ _ _ _ _ _ ?hx18003 ?_
         case hx18003 => kernel_rfl
         intro K hK
         go_simp
         refine hK _ _ ?_
         clear hK K
         refine @BigFrame.wpList_want _ _ _ _ _ _ _ ?hx18004 ?_
         case hx18004 => kernel_rfl
         intro K hK
         go_simp
         refine hK _ _ ?_
         clear hK K
         refine @BigFrame.wpList_want _ _ _ _ _ _ _ ?hx18005 ?_
         case hx18005 => kernel_rfl
         intro K hK
         go_simp
         refine hK _ _ ?_
         clear hK K
         refine @BigFrame.wpList_want _ _ _ _ _ _ _ ?hx18006 ?_
         case hx18006 => kernel_rfl
         intro K hK
         go_simp
         refine hK _ _ ?_
         clear hK K
         refine @BigFrame.wpList_want _ _ _ _ _ _ _ ?hx18007 ?_
         case hx18007 => kernel_rfl
         intro K hK
         go_simp
         refine hK _ _ ?_
         clear hK K
         refine @BigFrame.wpList_want _ _ _ _ _ _ _ ?hx18008 ?_
         case hx18008 => kernel_rfl
         intro K hK
         go_simp
         refine hK _ _ ?_
         clear hK K
         refine @BigFrame.wpList_want _ _ _ _ _ _ _ ?hx18009 ?_
         case hx18009 => kernel_rfl
         intro K hK
         go_simp
         refine hK _ _ ?_
         clear hK K
         refine @BigFrame.wpList_want _ _ _ _ _ _ _ ?hx18010 ?_
         case hx18010 => kernel_rfl
         intro K hK
         go_simp
         refine hK _ _ ?_
         clear hK K
         refine @BigFrame.wpList_want _ _ _ _ _ _ _ ?hx18011 ?_
         case hx18011 => kernel_rfl
         intro K hK
         go_simp
         refine hK _ _ ?_
         clear hK K
         refine @BigFrame.wpList_want _ _ _ _ _ _ _ ?hx18012 ?_
         case hx18012 => kernel_rfl
         intro K hK
         go_simp
         refine hK _ _ ?_
         clear hK K
         refine @BigFrame.wpList_want _ _ _ _ _ _ _ ?hx18013 ?_
         case hx18013 => kernel_rfl
         intro K hK
         go_simp
         refine hK _ _ ?_
         clear hK K
         clear t0 hnl h0z hwk hkl hk0 hck
         go_wp2
         go_ret
         refine ⟨?_, HK.out⟩
         rw [HTL.out, HNM.out]; rfl
        ·have h0z : ((ln : Int) == 0) = true := by rw [beq_iff_eq]; omega
         have HLB : Hid (Tt.lastBlank L = false) := Lib.hid (by
          unfold Tt.lastBlank
          rw [← HLN.out, decide_eq_false h0]; rfl)
         clear h0
         go_upto_region 28 with fail
         clear t1
         refine wp_region_lit ?_
         refine @BigFrame.wpList_want _ _ _ _ _ _ _ ?hx18014 ?_
         case hx18014 => kernel_rfl
         intro K hK
         go_simp
         refine hK _ _ ?_
         clear hK K
         refine @BigFrame.wpList_want _ _ _ _ _ _ _ ?hx18015 ?_
         case hx18015 => kernel_rfl
         intro K hK
         go_simp
         refine hK _ _ ?_
         clear hK K
         refine @BigFrame.wpList_want _ _ _ _ _ _ _ ?hx18016 ?_
         case hx18016 => kernel_rfl
         intro K hK
         go_simp
         refine hK _ _ ?_
         clear hK K
         refine @wpList_skip _ _ _ _ _ _ _ ?hx18017 ?_
         case hx18017 => kernel_rfl
         simp only [Act.put, List.setIfInBounds_toArray, List.set_cons_zero, List.set_cons_succ]
         refine @wpList_skip _ _ _ _ _ _ _ ?hx18018 ?_
         case hx18018 => kernel_rfl
         simp only [Act.put, List.setIfInBounds_toArray, List.set_cons_zero, List.set_cons_succ]
         refine @wpList_skip _ _ _ _ _ _ _ ?hx18019 ?_
         case hx18019 => kernel_rfl
         simp only [Act.put, List.setIfInBounds_toArray, List.set_cons_zero, List.set_cons_succ]
         refine @wpList_skip _ _ _ _ _ _ _ ?hx18020 ?_
         case hx18020 => kernel_rfl
         simp only [Act.put, List.setIfInBounds_toArray, List.set_cons_zero, List.set_cons_succ]
         refine @wpList_skip _ _ _ _ _ _ _ ?hx18021 ?_
         case hx18021 => kernel_rfl
         simp only [Act.put, List.setIfInBounds_toArray, List.set_cons_zero, List.set_cons_succ]
         refine @wpList_skip _ _ _ _ _ _ _ ?hx18022 ?_
         case hx18022 => kernel_rfl
         simp only [Act.put, List.setIfInBounds_toArray, List.set_cons_zero, List.set_cons_succ]
         refine @wpList_skip _ _ _ _ _ _ _ ?hx18023 ?_
         case hx18023 => kernel_rfl
         simp only [Act.put, List.setIfInBounds_toArray, List.set_cons_zero, List.set_cons_succ]
         refine @wpList_skip _ _ _ _ _ _ _ ?hx18024 ?_
         case hx18024 => kernel_rfl
         simp only [Act.put, List.setIfInBounds_toArray, List.set_cons_zero, List.set_cons_succ]
         refine @BigFrame.wpList_want _ _ _ _ _ _ _ ?hx18025 ?_
         case hx18025 => kernel_rfl
         intro K hK
         go_simp
         refine hK _ _ ?_
         clear hK K
         refine @BigFrame.wpList_want _ _ _ _ _ _ _ ?hx18026 ?_
         case hx18026 => kernel_rfl
         intro K hK
         go_simp
         refine hK _ _ ?_
         clear hK K
         clear t0 hnl h0z
         go_wp2
         go_ret
         refine ⟨?_, HK.out⟩
         rw [HTL.out, HLB.out]; rfl

end Go.Proofs.YtilpehpiikdkbaaGreatDoor
