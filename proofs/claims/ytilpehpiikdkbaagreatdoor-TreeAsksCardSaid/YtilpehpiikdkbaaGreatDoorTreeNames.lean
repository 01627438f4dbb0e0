/-
 The landed rightOrNone and Names.
-/
import Derived.Test.YtilpehpiikdkbaaGreatDoorTreeSort

namespace Go.Proofs.YtilpehpiikdkbaaGreatDoor
open Go.RowKit Go.Lib

set_option maxRecDepth 100000 in
set_option maxHeartbeats 6400000 in
theorem rightornone_yes (lv pv : Value) (L : List Lf) (P : List Pr) (w : World) (hL : Lvs w lv L) (hP : Pts w pv P) (hn : L.length ≤ 1000) (hp : P.length ≤ 1000) (hpl : ∀ p ∈ P, p.loose.length ≤ 1000) (hr : Tt.right L P = true) :
  Calls Tryz.prog 47 #[.agg #[lv, pv]] w fun e w' => e = .returned (.agg #[lv, pv]) ∧ Kept w.heap.size w.heap.size w w' := by
 have HRR := Lib.hid (fun (x : World) (k : Kept w.heap.size w.heap.size w x) => right_calls8 lv pv L P x (hL.kept k) (hP.kept k) hn hp hpl)
 rw [hr] at HRR
 obtain ⟨lad, lc, rfl⟩ := hL.shape
 obtain ⟨pad, pc, rfl⟩ := hP.shape
 obtain ⟨ln, hln⟩ : ∃ ln, ln = L.length := ⟨_, rfl⟩
 obtain ⟨pn, hpn⟩ : ∃ pn, pn = P.length := ⟨_, rfl⟩
 rw [← hln, ← hpn] at HRR ⊢
 clear hL hP hn hp hpl hr hln hpn
 have k1 := (Kept.refl w.heap.size w.heap.size w).alloc (Nat.le_refl _) (.cells #[.slice lad ln lc, .slice pad pn pc] 27)
 have t1 := heap_new w (.cells #[.slice lad ln lc, .slice pad pn pc] 27)
 have s1 : (w.alloc (.cells #[.slice lad ln lc, .slice pad pn pc] 27)).heap.size = w.heap.size + 1 := by simp
 go_enter Tryz.func47, Tryz.ntmps47
 go_upto_region 1 with fail
 generalize w.alloc (.cells #[.slice lad ln lc, .slice pad pn pc] 27) = wa at k1 t1 s1 ⊢
 have k3 := (Kept.refl wa.heap.size wa.heap.size wa).alloc (Nat.le_refl _) (.cells #[.slice none 0 0, .slice none 0 0] 27)
 have r3 := heap_new wa (.cells #[.slice none 0 0, .slice none 0 0] 27)
 have t3 := (k3.block _ (lt_of_block t1) (Nat.ne_of_lt (lt_of_block t1))).trans t1
 generalize wa.alloc (.cells #[.slice none 0 0, .slice none 0 0] 27) = w1 at k3 r3 t3 ⊢
 have K1 := Lib.hid (k1.next1 k3)
 rw [s1] at r3
 (try rw [s1])
 obtain ⟨tb, htb⟩ : ∃ tb, tb = w.heap.size := ⟨_, rfl⟩
 obtain ⟨rb, hrb⟩ : ∃ rb, rb = w.heap.size + 1 := ⟨_, rfl⟩
 rw [← hrb] at r3
 (try rw [← hrb])
 rw [← htb] at t3
 (try rw [← htb])
 have HRB := Lib.hid (show w.heap.size ≤ rb by omega)
 have T1 := Lib.hid t3
 have R1 := Lib.hid r3
 clear k1 t1 s1 k3 r3 t3 htb hrb
 refine wp_region_lit ?_
 refine @wpList_load_known _ _ _ _ _ _ _ ?hw37002 27 (.tmp 1) rfl (tb) (0) rfl (.agg #[.slice lad ln lc, .slice pad pn pc]) (run_loadVar_row w1 tb 27 27 _ (0, 0) _ T1.out Tryz.underlying27 rfl treeInfo) ?_
 case hw37002 => kernel_rfl
 simp only [Act.put, List.setIfInBounds_toArray, List.set_cons_zero, List.set_cons_succ]
 refine @BigFrame.wpList_want _ _ _ _ _ _ _ ?hw37001 ?_
 case hw37001 => kernel_rfl
 intro K hK
 go_simp
 go_at_call 11
 refine (HRR.out _ K1.out).mono ?_
 rintro e w2 ⟨rfl, k2⟩
 have K2 := Lib.hid (K1.out.next1 k2)
 have T2 := Lib.hid ((k2.block tb (lt_of_block T1.out) (Nat.ne_of_lt (lt_of_block T1.out))).trans T1.out)
 have R2 := Lib.hid ((k2.block rb (lt_of_block R1.out) (Nat.ne_of_lt (lt_of_block R1.out))).trans R1.out)
 clear k2
 refine hK _ _ ?_
 clear hK K
 refine @BigFrame.wpList_want _ _ _ _ _ _ _ ?hw37003 ?_
 case hw37003 => kernel_rfl
 intro K hK
 go_simp
 refine hK _ _ ?_
 clear hK K
 go_upto_region 3 with fail
 refine wp_region_lit ?_
 refine @wpList_load_known _ _ _ _ _ _ _ ?hw37004 27 (.tmp 1) rfl (tb) (0) rfl (.agg #[.slice lad ln lc, .slice pad pn pc]) (run_loadVar_row w2 tb 27 27 _ (0, 0) _ T2.out Tryz.underlying27 rfl treeInfo) ?_
 case hw37004 => kernel_rfl
 simp only [Act.put, List.setIfInBounds_toArray, List.set_cons_zero, List.set_cons_succ]
 refine wpList_store_row rfl 27 _ _ rfl (rb) #[.slice lad ln lc, .slice pad pn pc] rfl rfl 27 #[.slice none 0 0, .slice none 0 0] R2.out treeInfo rfl (tree_all _ _ _ _ _ _) ?_
 simp only [Act.put]
 have R3 := setRow_heap w2 rb _ #[.slice lad ln lc, .slice pad pn pc] _ _ R2.out
 have K3 := Lib.hid (K2.out.grown (grown_setRow w2 rb #[.slice lad ln lc, .slice pad pn pc]) K2.out.size (fun k e => by cases e; exact HRB.out))
 generalize w2.setRow rb #[.slice lad ln lc, .slice pad pn pc] = w3 at R3 K3 ⊢
 go_wp2
 refine bodyPost_ret (results_cell_row rfl _ _ rb 27 _ (0, 0) _ rfl R3 Tryz.underlying27 rfl treeInfo) rfl ?_
 exact ⟨rfl, K3.out⟩

set_option maxRecDepth 100000 in
set_option maxHeartbeats 6400000 in
theorem names_calls (lv pv : Value) (L : List Lf) (P : List Pr) (w : World) (hL : Lvs w lv L) (hP : Pts w pv P) (hn : L.length ≤ 1000) (hp : P.length ≤ 1000) (hpl : ∀ p ∈ P, p.loose.length ≤ 1000) (hr : Tt.right L P = true) :
  Calls Tryz.prog 15 #[.agg #[lv, pv]] w fun e w' => ∃ v, e = .returned v ∧ Ints w' w.heap.size v (sortI (Tt.names L)) ∧ Kept w.heap.size w.heap.size w w' := by
 have HRN := Lib.hid (fun (x : World) (k : Kept w.heap.size w.heap.size w x) => rightornone_yes lv pv L P x (hL.kept k) (hP.kept k) hn hp hpl hr)
 obtain ⟨pad, pc, rfl⟩ := hP.shape
 obtain ⟨lad, lg, lo, lc, rfl, hc, _⟩ := hL
 obtain ⟨ln, hln⟩ : ∃ ln, ln = L.length := ⟨_, rfl⟩
 obtain ⟨pn, hpn⟩ : ∃ pn, pn = P.length := ⟨_, rfl⟩
 rw [← hln, ← hpn] at HRN ⊢
 have hln9 : (ln : Int) ≤ 1000 := by omega
 have HLN := Lib.hid hln
 have HC := Lib.hid hc
 have HNL := Lib.hid (fun i => Nat.le_trans (Tt.names_length (L.take i)) (show (L.take i).length ≤ 1000 by rw [List.length_take]; omega))
 clear hP hn hp hpl hr hln hpn hc
 have k1 := (Kept.refl w.heap.size w.heap.size w).alloc (Nat.le_refl _) (.cells #[.slice lad ln lc, .slice pad pn pc] 27)
 have t1 := heap_new w (.cells #[.slice lad ln lc, .slice pad pn pc] 27)
 go_enter Tryz.func15, Tryz.ntmps15
 go_upto_region 2 with fail
 generalize w.alloc (.cells #[.slice lad ln lc, .slice pad pn pc] 27) = w1 at k1 t1 ⊢
 obtain ⟨tb, htb⟩ : ∃ tb, tb = w.heap.size := ⟨_, rfl⟩
 rw [← htb] at t1
 (try rw [← htb])
 have K1 := Lib.hid k1
 have T1 := Lib.hid t1
 clear k1 t1 htb
 refine wp_region_lit ?_
 refine @wpList_load_known _ _ _ _ _ _ _ ?hw37006 27 (.tmp 1) rfl (tb) (0) rfl (.agg #[.slice lad ln lc, .slice pad pn pc]) (run_loadVar_row w1 tb 27 27 _ (0, 0) _ T1.out Tryz.underlying27 rfl treeInfo) ?_
 case hw37006 => kernel_rfl
 simp only [Act.put, List.setIfInBounds_toArray, List.set_cons_zero, List.set_cons_succ]
 refine @BigFrame.wpList_want _ _ _ _ _ _ _ ?hw37005 ?_
 case hw37005 => kernel_rfl
 intro K hK
 go_simp
 go_at_call 47
 refine (HRN.out _ K1.out).mono ?_
 rintro e w2 ⟨rfl, k2⟩
 have K2 := Lib.hid (K1.out.next1 k2)
 clear k2
 refine hK _ _ ?_
 clear hK K
 refine @BigFrame.wpList_want _ _ _ _ _ _ _ ?hw37007 ?_
 case hw37007 => kernel_rfl
 intro K hK
 go_simp
 refine hK _ _ ?_
 clear hK K
 refine @BigFrame.wpList_want _ _ _ _ _ _ _ ?hw37008 ?_
 case hw37008 => kernel_rfl
 intro K hK
 go_simp
 refine hK _ _ ?_
 clear hK K
 refine @BigFrame.wpList_want _ _ _ _ _ _ _ ?hw37009 ?_
 case hw37009 => kernel_rfl
 intro K hK
 go_simp
 refine hK _ _ ?_
 clear hK K
 go_wp2
 have I2 := Lib.hid (show Ints w2 w.heap.size (.slice none 0 0) (Tt.names (L.take 0)) from World.ownsRow_nil _ _ _ _)
 go_loopw [3, 10] (fun s3 s10 wr => ∃ i : Nat, ∃ v, s3 = v ∧ s10 = .int .i64 (i : Int) ∧ Hid (i ≤ ln) ∧ Hid (Kept w.heap.size w.heap.size w wr) ∧ Hid (Ints wr w.heap.size v (Tt.names (L.take i)))) (fun _ s10 _ => ln - (RowKit.intOf s10).toNat)
 case atStart => exact ⟨0, _, rfl, rfl, Lib.hid (Nat.zero_le _), K2, I2⟩
 case round =>
  obtain ⟨i, v, rfl, rfl, hi, HK, HI⟩ := hrel
  obtain ⟨vad, vc, hv⟩ := (ints_nums HI.out).shape
  subst hv
  obtain ⟨vn, hvn⟩ : ∃ vn, vn = (Tt.names (L.take i)).length := ⟨_, rfl⟩
  rw [← hvn] at HI ⊢
  have HVN := Lib.hid hvn
  clear hvn
  by_cases hlt : i < ln
  ·have hiL : i < L.length := by rw [← HLN.out]; exact hlt
   obtain ⟨rfl, hg, hok, hrg⟩ := HC.out i hiL
   have hlti : (i : Int) < (ln : Int) := by omega
   have hi0 : ¬ (i : Int) < 0 := by omega
   have HLD := Lib.hid (run_loadVar_mid wr lg (lo + i * 97) 48 L[i].cells _ (rangeAt_kept HK.out hrg hg (Nat.ne_of_lt hg)) Tryz.underlying48 rfl (by have := leafInfo (Lf.size hok); simpa using this))
   have HNX := Lib.hid (show Tt.names (L.take (i + 1)) = if L[i].name == 0 then Tt.names (L.take i) else Tt.names (L.take i) ++ [L[i].name] by rw [List.take_succ_eq_append_getElem hiL, Tt.names_snoc])
   have HIB := Lib.hid (isblank_calls L[i])
   have hlsz := Lf.size hok
   have hlal := L[i].all
   have hD0 := L[i].at_name
   obtain ⟨D, hD⟩ : ∃ D, D = L[i].cells.toArray := ⟨_, rfl⟩
   obtain ⟨nm, hN⟩ : ∃ nm, nm = L[i].name := ⟨_, rfl⟩
   rw [← hD, ← hN] at HIB
   rw [← hD] at HLD hlsz hlal
   rw [← hD, ← hN] at hD0
   rw [← hN] at HNX
   have HSZ := Lib.hid hlsz
   have HAL := Lib.hid hlal
   have HLT := Lib.hid hlt
   clear hlt hi hiL hg hok hrg hlsz hlal hD hN
   go_upto_region 4 with fail
   refine wp_region_lit ?_
   refine @BigFrame.wpList_want _ _ _ _ _ _ _ ?hw37010 ?_
   case hw37010 => kernel_rfl
   intro K hK
   go_simp
   refine hK _ _ ?_
   clear hK K
   refine @wpList_load_known _ _ _ _ _ _ _ ?hw37011 48 (.tmp 12) rfl (lg) (lo + i * 97) rfl (.agg D) (HLD.out) ?_
   case hw37011 => kernel_rfl
   simp only [Act.put, List.setIfInBounds_toArray, List.set_cons_zero, List.set_cons_succ]
   refine @wpL_alloc _ _ _ _ _ _ _ _ ?hw37012 48 rfl _ (alloc_leaf _) ?_
   case hw37012 => kernel_rfl
   simp only [Act.put, List.setIfInBounds_toArray, List.set_cons_zero, List.set_cons_succ]
   refine wpList_store_row rfl 48 _ _ rfl (wr.heap.size) D rfl rfl 48 Lf.zero.cells.toArray (heap_new _ _) (leafInfo HSZ.out) (by rw [HSZ.out]; exact Lf.size Lf.zero_ok) (HAL.out) ?_
   simp only [Act.put]
   rw [World.setRow_alloc_new]
   have K4 := Lib.hid (HK.out.alloc HK.out.size (.cells D 48))
   have I4 := Lib.hid (HI.out.alloc (.cells D 48))
   have R4 := Lib.hid (heap_new wr (.cells D 48))
   obtain ⟨lb, hlb⟩ : ∃ lb, lb = wr.heap.size := ⟨_, rfl⟩
   rw [← hlb] at R4
   (try rw [← hlb])
   generalize wr.alloc (.cells D 48) = w4 at K4 I4 R4 ⊢
   clear hlb HLD HK HI
   by_cases hz : nm = 0
   ·have HZB := Lib.hid (show (nm == 0) = true by rw [beq_iff_eq]; exact hz)
    rw [HZB.out] at HIB HNX
    rw [if_pos rfl] at HNX
    clear hz
    go_upto_region 5 with fail
    refine wp_region_lit ?_
    refine @wpList_load_known _ _ _ _ _ _ _ ?hw37014 48 (.tmp 5) rfl (lb) (0) rfl (.agg D) (run_loadVar_row w4 lb 48 48 _ (0, 0) _ R4.out Tryz.underlying48 rfl (leafInfo HSZ.out)) ?_
    case hw37014 => kernel_rfl
    simp only [Act.put, List.setIfInBounds_toArray, List.set_cons_zero, List.set_cons_succ]
    refine @BigFrame.wpList_want _ _ _ _ _ _ _ ?hw37013 ?_
    case hw37013 => kernel_rfl
    intro K hK
    go_simp
    go_at_call 40
    refine (HIB.out _).mono ?_
    rintro e w5 ⟨rfl, k5⟩
    have K5 := Lib.hid (K4.out.next1 k5)
    have I5 := Lib.hid (I4.out.kept k5)
    have R5 := Lib.hid ((k5.block lb (lt_of_block R4.out) (Nat.ne_of_lt (lt_of_block R4.out))).trans R4.out)
    clear k5
    refine hK _ _ ?_
    clear hK K
    refine @BigFrame.wpList_want _ _ _ _ _ _ _ ?hw37015 ?_
    case hw37015 => kernel_rfl
    intro K hK
    go_simp
    refine hK _ _ ?_
    clear hK K
    go_wp2
    go_roundw
    case rel => exact ⟨i + 1, _, rfl, by simp, Lib.hid HLT.out, K5, by rw [HNX.out]; exact I5⟩
    case measure => have := HLT.out; simp [RowKit.intOf]; omega
   ·have HZB := Lib.hid (show (nm == 0) = false by rw [beq_eq_false_iff_ne]; exact hz)
    rw [HZB.out] at HIB HNX
    rw [if_neg (by decide)] at HNX
    clear hz
    go_upto_region 5 with fail
    refine wp_region_lit ?_
    refine @wpList_load_known _ _ _ _ _ _ _ ?hw37017 48 (.tmp 5) rfl (lb) (0) rfl (.agg D) (run_loadVar_row w4 lb 48 48 _ (0, 0) _ R4.out Tryz.underlying48 rfl (leafInfo HSZ.out)) ?_
    case hw37017 => kernel_rfl
    simp only [Act.put, List.setIfInBounds_toArray, List.set_cons_zero, List.set_cons_succ]
    refine @BigFrame.wpList_want _ _ _ _ _ _ _ ?hw37016 ?_
    case hw37016 => kernel_rfl
    intro K hK
    go_simp
    go_at_call 40
    refine (HIB.out _).mono ?_
    rintro e w5 ⟨rfl, k5⟩
    have K5 := Lib.hid (K4.out.next1 k5)
    have I5 := Lib.hid (I4.out.kept k5)
    have R5 := Lib.hid ((k5.block lb (lt_of_block R4.out) (Nat.ne_of_lt (lt_of_block R4.out))).trans R4.out)
    clear k5
    refine hK _ _ ?_
    clear hK K
    refine @BigFrame.wpList_want _ _ _ _ _ _ _ ?hw37018 ?_
    case hw37018 => kernel_rfl
    intro K hK
    go_simp
    refine hK _ _ ?_
    clear hK K
    go_upto_region 6 with fail
    have c0 : w5.cell? ⟨lb, 0, none⟩ = some (.int .i64 nm) := by rw [cell_of_row w5 lb 0 _ _ _ R5.out]; exact hD0
    have K6 := Lib.hid (K5.out.alloc K5.out.size (.cells #[.int .i64 nm] 3))
    have i6 := I5.out.alloc (.cells #[.int .i64 nm] 3)
    obtain ⟨v7, w7, e7, i7, g7⟩ := append_int1 _ _ _ _ nm i6 w5.heap.size 1 (one_cellT (heap_new w5 (.cells #[.int .i64 nm] 3))) (by have := HNL.out i; omega) K6.out.size
    have k7 := K6.out.grown g7 K6.out.size (fun k e => (World.ownsRow.lt i6 k e).1)
    rw [← HNX.out] at i7
    obtain ⟨vad7, vc7, hv7⟩ := (ints_nums i7).shape
    subst hv7
    obtain ⟨vn7, hvn7⟩ : ∃ vn7, vn7 = (Tt.names (L.take (i + 1))).length := ⟨_, rfl⟩
    rw [← hvn7] at e7 i7
    have E7 := Lib.hid e7
    have I7 := Lib.hid i7
    have K7 := Lib.hid k7
    clear i6 e7 i7 g7 k7 hvn7
    refine wp_region_lit ?_
    refine @BigFrame.wpList_want _ _ _ _ _ _ _ ?hw37019 ?_
    case hw37019 => kernel_rfl
    intro K hK
    go_simp
    refine hK _ _ ?_
    clear hK K
    refine @BigFrame.wpList_want _ _ _ _ _ _ _ ?hw37020 ?_
    case hw37020 => kernel_rfl
    intro K hK
    go_simp
    refine hK _ _ ?_
    clear hK K
    refine @BigFrame.wpList_want _ _ _ _ _ _ _ ?hw37021 ?_
    case hw37021 => kernel_rfl
    intro K hK
    go_simp
    refine hK _ _ ?_
    clear hK K
    refine @BigFrame.wpList_want _ _ _ _ _ _ _ ?hw37022 ?_
    case hw37022 => kernel_rfl
    intro K hK
    go_simp
    refine hK _ _ ?_
    clear hK K
    refine wpList_append_known rfl (.tmp 17) (.tmp 20) 35 35 35 rfl rfl (.slice vad vn vc) (.slice (some ⟨w5.heap.size, 0, none⟩) 1 1) rfl rfl E7.out ?_
    simp only [Act.put, List.setIfInBounds_toArray, List.set_cons_zero, List.set_cons_succ]
    refine @BigFrame.wpList_want _ _ _ _ _ _ _ ?hw37023 ?_
    case hw37023 => kernel_rfl
    intro K hK
    go_simp
    refine hK _ _ ?_
    clear hK K
    clear c0
    go_wp2
    go_roundw
    case rel => exact ⟨i + 1, _, rfl, by simp, Lib.hid HLT.out, K7, I7⟩
    case measure => have := HLT.out; simp [RowKit.intOf]; omega
  ·have hnl : ¬ (i : Int) < (ln : Int) := by omega
   have HE := Lib.hid (show i = ln by have := hi.out; omega)
   clear hlt hi
   have HSO := Lib.hid (sort_ints wr w.heap.size (.slice vad vn vc) _ HI.out (by have := HNL.out i; omega))
   go_upto_region 8 with fail
   refine wp_region_lit ?_
   refine @BigFrame.wpList_want _ _ _ _ _ _ _ ?hw37024 ?_
   case hw37024 => kernel_rfl
   intro K hK
   go_simp
   refine hK _ _ ?_
   clear hK K
   refine @BigFrame.wpList_want _ _ _ _ _ _ _ ?hw37025 ?_
   case hw37025 => kernel_rfl
   intro K hK
   go_simp
   go_at_call 48
   refine (HSO.out).mono ?_
   rintro e w9 ⟨rfl, i9, g9⟩
   refine hK _ _ ?_
   clear hK K
   have I9 := Lib.hid i9
   have K9 := Lib.hid (HK.out.grown g9 HK.out.size (fun k e => (World.ownsRow.lt HI.out k e).1))
   clear i9 g9
   go_wp2
   go_ret
   refine ⟨_, rfl, ?_, K9.out⟩
   have := I9.out
   rw [HE.out, HLN.out, List.take_length] at this
   exact this

end Go.Proofs.YtilpehpiikdkbaaGreatDoor
