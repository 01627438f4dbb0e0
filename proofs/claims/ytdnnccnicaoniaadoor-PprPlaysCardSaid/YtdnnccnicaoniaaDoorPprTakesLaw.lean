/-
  The statement PprTakes: its walk.
-/
import Derived.Test.YtdnnccnicaoniaaDoorPprSame

namespace Go.Proofs.YtdnnccnicaoniaaDoor
open Go.RowKit Go.Lib
namespace Pp
/-- The first place that is taken of a row. -/
theorem took_root {n p : Nat} {l : List UInt8} (hl : l.length = 32) {L' : List Sd} {k : List UInt8} {er : Int} (h : Took n [⟨0, 0, l⟩] (p : Int) L' k er) (hp : p < 2 ^ n) : er = 0 ∧ L' = low n [p] n ⟨0, 0, l⟩ ∧ k = key (path p n l) := by
  have hw : Whole n [] ⟨0, 0, l⟩ := fun _ h => nomatch h
  have hh : Has n ⟨0, 0, l⟩ p := ⟨by simp [start], by simpa [stop] using hp⟩
  have e := low_whole hw n
  have h2 := Took.low (T := []) (s := ⟨0, 0, l⟩) (p := p) (bits := n) (by rw [e]; exact h) rfl (by rw [e]; exact root_good n l hl) hh hp (fun h => nomatch h)
  refine ⟨h2.1, h2.2, ?_⟩
  cases h with
  | out h => omega
  | gone q e1 _ h4 =>
    obtain rfl : p = q := by omega
    exact absurd hh (h4 _ (List.mem_singleton.2 rfl))
  | took A B s q e1 _ h4 h5 =>
    obtain rfl : p = q := by omega
    obtain ⟨rfl, rfl, rfl⟩ := part_one (A := []) (B := []) (s := ⟨0, 0, l⟩) (root_good n l hl) (by simpa using h4) hh h5
    show key (leaf n p (n - 0) ⟨0, 0, l⟩).self = _
    rw [Nat.sub_zero, leaf_path n p n ⟨0, 0, l⟩ (Nat.zero_add _) (by simp [start]) (by simpa [stop] using hp)]
theorem low_one_length (n p : Nat) (l : List UInt8) (hp : p < 2 ^ n) : (low n [p] n ⟨0, 0, l⟩).length = n := by
  have h := low_fresh n [] p n ⟨0, 0, l⟩ (Nat.zero_add _) ⟨by simp [start], by simpa [stop] using hp⟩ (fun _ h => nomatch h)
  rw [List.nil_append] at h
  rw [h, beside_length]
theorem low_in (n : Nat) (hn : n ≤ 32) (P : List Nat) (l : List UInt8) (hl : l.length = 32) : ∀ s ∈ low n P n ⟨0, 0, l⟩, s.level < 4294967296 ∧ s.place < 4294967296 ∧ s.self.length = 32 := by
  have h := (low_good n P n ⟨0, 0, l⟩ ⟨Nat.zero_le _, Nat.one_pos, hl⟩ (Nat.zero_add _)).1.1
  intro s hs
  obtain ⟨h1, h2, h3⟩ := h s hs
  have h4 : s.level ≤ 32 := Nat.le_trans h1 hn
  have h5 := Nat.pow_le_pow_right (n := 2) (by decide) h4
  exact ⟨by omega, by omega, h3⟩
end Pp
/-- A row's seeds lie apart from one of the document's. -/
theorem Ss.apart {w : World} {v : Value} {L : List Sd} {mb : Nat} {l : List UInt8} {n : Nat} {T : Value} {t : TypeId} (h : Ss w v L) (hl : l.length = 32) (h32 : ∀ s ∈ L, s.self.length = 32) (hm : w.heap[mb]? = some (.cells (refRow l n T) t (0, 0))) (j : Nat) (u : Value) : Ss (w.setCell ⟨mb, j, none⟩ u) v L := by
  obtain ⟨ad, g, o, c, rfl, h1, h2⟩ := h
  refine ⟨ad, g, o, c, rfl, fun i hi => ?_, h2⟩
  obtain ⟨a, b, d⟩ := h1 i hi
  have hne : g ≠ mb := by
    rintro rfl
    have e0 := d 0 (.int .i64 (L[i].level : Int)) (by simp [Pp.cells])
    have hlast : (Pp.cells L[i])[33]? ≠ none := by
      have := h32 _ (List.getElem_mem hi)
      rw [List.getElem?_eq_getElem (by simp [Pp.cells, bcells_length, this])]
      exact fun h => nomatch h
    cases hq : (Pp.cells L[i])[33]? with
    | none => exact hlast hq
    | some q =>
      have e1 := d 33 q hq
      have hs := refRow_size hl n T
      rw [cell_of_row w g _ _ _ _ hm] at e0 e1
      have hlt : o + i * 34 + 33 < 34 := by
        rcases Nat.lt_or_ge (o + i * 34 + 33) 34 with h | h
        · exact h
        · rw [Array.getElem?_eq_none (by omega)] at e1
          cases e1
      have hz : o + i * 34 = 0 := by omega
      rw [hz] at e0
      cases l with
      | nil => cases hl
      | cons x l => simp [refRow, bcells] at e0
  refine ⟨a, by simpa [World.setCell] using b, fun k x hk => ?_⟩
  rw [World.cell?_of_block (w := w) (setCell_other w mb j u g hne)]
  exact d k x hk
theorem RowIs.apart {w : World} {rb bits : Nat} {sl : Value} {L : List Sd} {mb : Nat} {l : List UInt8} {n : Nat} {T : Value} {t : TypeId} (h : RowIs w rb bits sl L) (hne : rb ≠ mb) (hl : l.length = 32) (h32 : ∀ s ∈ L, s.self.length = 32) (hm : w.heap[mb]? = some (.cells (refRow l n T) t (0, 0))) (j : Nat) (u : Value) : RowIs (w.setCell ⟨mb, j, none⟩ u) rb bits sl L :=
  ⟨(setCell_other w mb j u rb hne).trans h.1, h.2.apart hl h32 hm j u⟩
theorem refRow_set {l : List UInt8} (hl : l.length = 32) (n : Nat) (T T' : Value) : ((bcells l ++ [.int .i64 (n : Int), T]).set 33 T').toArray = refRow l n T' := by
  rw [refRow, List.set_append_right _ _ (by rw [bcells_length, hl]; decide), bcells_length, hl]
  rfl

set_option maxRecDepth 100000 in
set_option maxHeartbeats 12800000 in
theorem pprtakes_walk (l : List UInt8) (hl : l.length = 32) (b : Int) (hb0 : 0 ≤ b) (ask : Int) (w : World) (ht : Tab w) :
    Calls Tryd.prog 5 #[.agg (bcells l).toArray, .int .u8 b, .int .i64 ask] w fun e w' => e = .returned (.bool true) ∧ Kept w.heap.size w.heap.size w w' := by
  have hnew := fun n h1 h2 w => pnew_calls l hl n h1 h2 w
  have hbld := fun n w => build_newRow w l hl n
  obtain ⟨LD, hLD⟩ : ∃ LD, LD = (bcells l).toArray := ⟨_, rfl⟩
  have HLI := Lib.hid (show (Tryd.prog.info? 23).map (·.size) = some LD.size by rw [hLD]; exact keyInfo hl)
  simp only [← hLD] at hnew hbld
  rw [← hLD]
  have HNEW := Lib.hid hnew
  have HBLD := Lib.hid hbld
  have HLL := Lib.hid hl
  have HT := Lib.hid ht
  clear hLD hl hnew hbld ht
  have hk1 : Kept w.heap.size w.heap.size w (w.alloc (.cells LD 23)) := (Kept.refl _ _ _).alloc (Nat.le_refl _) _
  have hr1 := heap_new w (.cells LD 23)
  have K1 := Lib.hid hk1
  have R1 := Lib.hid hr1
  have T1 := Lib.hid (HT.out.kept hk1 HT.out.lt HT.out.lt)
  clear hk1 hr1
  go_enter Tryd.func5, Tryd.ntmps5
  go_upto_region 2 with fail
  generalize w.alloc (.cells LD 23) = w1 at K1 R1 T1 ⊢
  obtain ⟨wa, hwa⟩ : ∃ wa, wa = w.heap.size := ⟨_, rfl⟩
  rw [← hwa] at R1 ⊢
  have HWA := Lib.hid hwa
  clear hwa
  have hnz := u64_power b hb0
  obtain ⟨n, hn⟩ : ∃ n : Nat, 1 + b % 32 = (n : Int) := ⟨(1 + b % 32).toNat, by omega⟩
  have hn1 : 1 ≤ n := by omega
  have hn32 : n ≤ 32 := by omega
  rw [hn] at hnz ⊢
  have HN1 := Lib.hid hn1
  have HN32 := Lib.hid hn32
  have hn32i : (n : Int) ≤ 32 := by omega
  have hn0i : (0 : Int) ≤ (n : Int) := by omega
  clear hn hn1 hb0
  refine wp_region_lit ?_
  refine wpList_load_row rfl 23 (.tmp 3) rfl (wa) rfl 23 LD (0, 0) _ (R1.out) Tryd.underlying23 rfl (HLI.out) ?_
  simp only [Act.put, List.setIfInBounds_toArray, List.set_cons_zero, List.set_cons_succ]
  refine @BigFrame.wpList_want _ _ _ _ _ _ _ ?hw2001 ?_
  case hw2001 => kernel_rfl
  intro K hK
  go_simp
  refine hK _ _ ?_
  clear hK K
  refine @BigFrame.wpList_want _ _ _ _ _ _ _ ?hw2002 ?_
  case hw2002 => kernel_rfl
  intro K hK
  go_simp
  go_at_call 7
  refine (HNEW.out n HN1.out HN32.out _).mono ?_
  rintro e w2 ⟨rb, sl, rfl, hrb, hr2, k2⟩
  refine hK _ _ ?_
  clear hK K
  have K2 := Lib.hid (K1.out.next1 k2)
  have HR2 := Lib.hid hr2
  have R2 := Lib.hid ((k2.block wa (lt_of_block R1.out) (Nat.ne_of_lt (lt_of_block R1.out))).trans R1.out)
  have T2 := Lib.hid (T1.out.kept k2 T1.out.lt T1.out.lt)
  have HRB := Lib.hid (Nat.le_trans K1.out.size hrb)
  have HRW := Lib.hid (Nat.lt_of_lt_of_le (lt_of_block R1.out) hrb)
  clear k2 hr2 hrb
  refine @BigFrame.wpList_want _ _ _ _ _ _ _ ?hw2003 ?_
  case hw2003 => kernel_rfl
  intro K hK
  go_simp
  refine hK _ _ ?_
  clear hK K
  refine @BigFrame.wpList_want _ _ _ _ _ _ _ ?hw2004 ?_
  case hw2004 => kernel_rfl
  intro K hK
  go_simp
  refine hK _ _ ?_
  clear hK K
  refine @BigFrame.wpList_want _ _ _ _ _ _ _ ?hw2005 ?_
  case hw2005 => kernel_rfl
  intro K hK
  go_simp
  refine hK _ _ ?_
  clear hK K
  refine @BigFrame.wpList_want _ _ _ _ _ _ _ ?hw2006 ?_
  case hw2006 => kernel_rfl
  intro K hK
  go_simp
  refine hK _ _ ?_
  clear hK K
  refine @BigFrame.wpList_want _ _ _ _ _ _ _ ?hw2007 ?_
  case hw2007 => kernel_rfl
  intro K hK
  go_simp
  refine hK _ _ ?_
  clear hK K
  go_upto_region 3 with fail
  refine wp_region_lit ?_
  refine wpList_load_row rfl 23 (.tmp 3) rfl (wa) rfl 23 LD (0, 0) _ (R2.out) Tryd.underlying23 rfl (HLI.out) ?_
  simp only [Act.put, List.setIfInBounds_toArray, List.set_cons_zero, List.set_cons_succ]
  refine @BigFrame.wpList_want _ _ _ _ _ _ _ ?hw2008 ?_
  case hw2008 => kernel_rfl
  intro K hK
  go_simp
  refine hK _ _ ?_
  clear hK K
  refine wpList_build_pair rfl 32 0 1 _ _ rfl (.agg LD) (.int .i64 (n : Int)) rfl rfl (HBLD.out n _) ?_
  simp only [Act.put, List.setIfInBounds_toArray, List.set_cons_zero, List.set_cons_succ]
  obtain ⟨RW, hRW⟩ : ∃ RW, RW = newRow l n := ⟨_, rfl⟩
  rw [← hRW]
  have HRS := Lib.hid (show RW.size = 34 by rw [hRW]; exact newRow_size HLL.out n)
  have HRA := Lib.hid (show RW.all (·.oneCell') = true by rw [hRW]; exact newRow_all l n)
  have HRI := Lib.hid (refRowInfo HRS.out)
  have HROW := Lib.hid hRW
  clear hRW
  refine wpList_alloc_k rfl 32 rfl (alloc_newRow _) ?_
  simp only [Act.put, List.setIfInBounds_toArray, List.set_cons_zero, List.set_cons_succ]
  refine wpList_store_row rfl 32 _ _ rfl (w2.heap.size) RW rfl rfl 32 zerosRow (heap_new _ _) (HRI.out) (by rw [zerosRow_size, HRS.out]) (HRA.out) ?_
  simp only [Act.put]
  rw [World.setRow_alloc_new]
  have kk3 : Kept w2.heap.size w2.heap.size w2 (w2.alloc (.cells RW 32)) := (Kept.refl _ _ _).alloc (Nat.le_refl _) _
  have HR3 := Lib.hid (HR2.out.kept kk3)
  have K3 := Lib.hid (K2.out.next1 kk3)
  have M3 := Lib.hid (heap_new w2 (.cells RW 32))
  have T3 := Lib.hid (T2.out.kept kk3 T2.out.lt T2.out.lt)
  clear kk3
  generalize w2.alloc (.cells RW 32) = w3 at HR3 K3 M3 T3 ⊢
  obtain ⟨mb, hmb⟩ : ∃ mb, mb = w2.heap.size := ⟨_, rfl⟩
  rw [← hmb] at M3 ⊢
  have HRM := Lib.hid (show rb < mb by rw [hmb]; exact lt_of_block HR2.out.1)
  have HWM := Lib.hid (show w.heap.size ≤ mb by rw [hmb]; exact K2.out.size)
  clear hmb HR2 R2
  go_upto_region 5 with fail
  obtain ⟨pl, hpl, hp2⟩ : ∃ pl : Nat, wrap64 ((IntKind.u64.wrap ask).tmod (IntKind.u64.wrap (2 ^ n))) = (pl : Int) ∧ pl < 2 ^ n := by
    have h1 := Nat.pow_le_pow_right (n := 2) (by decide) hn32
    have h2 := Nat.two_pow_pos n
    have e : ((2 : Int) ^ n) = ((2 ^ n : Nat) : Int) := by simp
    rw [e, u64_wrap, u64_wrap]
    obtain ⟨a, ha⟩ : ∃ a : Nat, ask % 18446744073709551616 = (a : Int) := ⟨(ask % 18446744073709551616).toNat, by omega⟩
    rw [ha, show ((2 ^ n : Nat) : Int) % 18446744073709551616 = ((2 ^ n : Nat) : Int) by omega]
    have h3 := Nat.mod_lt a h2
    refine ⟨a % 2 ^ n, ?_, h3⟩
    rw [show (a : Int).tmod ((2 ^ n : Nat) : Int) = ((a % 2 ^ n : Nat) : Int) from rfl]
    unfold wrap64
    omega
  rw [hpl]
  have HP2 := Lib.hid hp2
  have HPB := Lib.hid (show pl < 2 ^ 32 from Nat.lt_of_lt_of_le hp2 (Nat.pow_le_pow_right (by decide) hn32))
  clear hpl hnz hp2
  have hn100 : n < 1000000 := by omega
  have HTAKE := Lib.hid (fun w (h : RowIs w rb n sl [⟨0, 0, l⟩]) => row_take n HN32.out _ rb sl (pl : Int) w h (root_good n l HLL.out) (by simp))
  have HLEN := Lib.hid (Pp.low_one_length n pl l HP2.out)
  have HIN := Lib.hid (Pp.low_in n HN32.out [pl] l HLL.out)
  clear hn100
  go_upto_region 5 with fail
  refine wp_region_lit ?_
  refine @BigFrame.wpList_want _ _ _ _ _ _ _ ?hw2009 ?_
  case hw2009 => kernel_rfl
  intro K hK
  go_simp
  refine hK _ _ ?_
  clear hK K
  refine @BigFrame.wpList_want _ _ _ _ _ _ _ ?hw2010 ?_
  case hw2010 => kernel_rfl
  intro K hK
  go_simp
  refine hK _ _ ?_
  clear hK K
  refine @BigFrame.wpList_want _ _ _ _ _ _ _ ?hw2011 ?_
  case hw2011 => kernel_rfl
  intro K hK
  go_simp
  go_at_call 12
  refine (HTAKE.out _ HR3.out).mono ?_
  rintro e w4 ⟨L', k0, er, rfl, htk, sl', hr4, k4⟩
  obtain ⟨rfl, rfl, hk0⟩ := Pp.took_root HLL.out htk HP2.out
  clear htk
  refine hK _ _ ?_
  clear hK K
  have K4 := Lib.hid (K3.out.row k4 HRB.out)
  have HR4 := Lib.hid hr4
  have M4 := Lib.hid ((k4.block mb (lt_of_block M3.out) (Nat.ne_of_gt HRM.out)).trans M3.out)
  have T4 := Lib.hid (T3.out.kept k4 T3.out.lt (by have := HRW.out; omega))
  have hk32 : k0.length = 32 := by rw [hk0]; exact sum_length _
  have HK0 := Lib.hid hk0
  clear k4 hr4 hk0
  obtain ⟨KD, hKD⟩ : ∃ KD, KD = (bcells k0).toArray := ⟨_, rfl⟩
  rw [← hKD]
  have heq : ∀ w, (Op.equalIn 10000 23 (.agg KD) (.agg KD)).run Tryd.prog w = .ok true w := fun w => by
    rw [hKD]
    have := hash_equalIn w k0 k0 hk32 hk32
    rwa [beq_self_eq_true] at this
  have HEQ := Lib.hid heq
  have HQS := Lib.hid (show KD.size = 32 by rw [hKD]; exact keyD_size hk32)
  have HQA := Lib.hid (show KD.all (·.oneCell') = true by rw [hKD]; exact bcells_all _)
  have HQI := Lib.hid (show (Tryd.prog.info? 23).map (·.size) = some KD.size by rw [hKD]; exact keyInfo hk32)
  have HKD := Lib.hid hKD
  clear heq hKD hk32
  refine @BigFrame.wpList_want _ _ _ _ _ _ _ ?hw2012 ?_
  case hw2012 => kernel_rfl
  intro K hK
  go_simp
  refine hK _ _ ?_
  clear hK K
  refine @BigFrame.wpList_want _ _ _ _ _ _ _ ?hw2013 ?_
  case hw2013 => kernel_rfl
  intro K hK
  go_simp
  refine hK _ _ ?_
  clear hK K
  refine @BigFrame.wpList_want _ _ _ _ _ _ _ ?hw2014 ?_
  case hw2014 => kernel_rfl
  intro K hK
  go_simp
  refine hK _ _ ?_
  clear hK K
  refine wpList_alloc_k rfl 23 rfl (alloc_hash _) ?_
  simp only [Act.put, List.setIfInBounds_toArray, List.set_cons_zero, List.set_cons_succ]
  refine wpList_store_row rfl 23 _ _ rfl (w4.heap.size) KD rfl rfl 23 zeros32 (heap_new _ _) (HQI.out) (zeros32_size.trans HQS.out.symm) (HQA.out) ?_
  simp only [Act.put]
  rw [World.setRow_alloc_new]
  have kk5 : Kept w4.heap.size w4.heap.size w4 (w4.alloc (.cells KD 23)) := (Kept.refl _ _ _).alloc (Nat.le_refl _) _
  have HR5 := Lib.hid (HR4.out.kept kk5)
  have K5 := Lib.hid (K4.out.next1 kk5)
  have M5 := Lib.hid ((kk5.block mb (lt_of_block M4.out) (Nat.ne_of_lt (lt_of_block M4.out))).trans M4.out)
  have Q5 := Lib.hid (heap_new w4 (.cells KD 23))
  have T5 := Lib.hid (T4.out.kept kk5 T4.out.lt T4.out.lt)
  clear kk5
  generalize w4.alloc (.cells KD 23) = w5 at HR5 K5 M5 Q5 T5 ⊢
  obtain ⟨qb, hqb⟩ : ∃ qb, qb = w4.heap.size := ⟨_, rfl⟩
  rw [← hqb] at Q5 ⊢
  have HQM := Lib.hid (show mb < qb by rw [hqb]; exact lt_of_block M4.out)
  clear hqb
  refine @BigFrame.wpList_want _ _ _ _ _ _ _ ?hw2015 ?_
  case hw2015 => kernel_rfl
  intro K hK
  go_simp
  refine hK _ _ ?_
  clear hK K
  have hm5 := M5.out
  rw [HROW.out, newRow, refRow] at hm5
  have kk6 : Kept w5.heap.size w5.heap.size w5 (w5.alloc (.cells #[.int .i64 (pl : Int)] 3)) := (Kept.refl _ _ _).alloc (Nat.le_refl _) _
  have hm6 := (kk6.block mb (lt_of_block hm5) (Nat.ne_of_lt (lt_of_block hm5))).trans hm5
  have c33 : (w5.alloc (.cells #[.int .i64 (pl : Int)] 3)).cell? ⟨mb, 33, none⟩ = some (.slice none 0 0) := by
    rw [cells_at hm6 33 (by simp [bcells_length, HLL.out])]
    simp [List.getElem_append_right, bcells_length, HLL.out]
  have f33 := cells_free hm6 33
  have HR6 := Lib.hid (HR5.out.kept kk6)
  have K6 := Lib.hid (K5.out.next1 kk6)
  have Q6 := Lib.hid ((kk6.block qb (lt_of_block Q5.out) (Nat.ne_of_lt (lt_of_block Q5.out))).trans Q5.out)
  have T6 := Lib.hid (T5.out.kept kk6 T5.out.lt T5.out.lt)
  have G6 := Lib.hid (heap_new w5 (.cells #[.int .i64 (pl : Int)] 3))
  have HM6 := Lib.hid hm6
  have HW5 := Lib.hid (show (w5.alloc (.cells #[.int .i64 (pl : Int)] 3)).heap.size = w5.heap.size + 1 by simp)
  clear hm5 hm6 kk6
  go_upto_region 7 with fail
  obtain ⟨SL, hSL⟩ : ∃ SL, SL = Value.slice (some ⟨w5.heap.size, 0, none⟩) 1 1 := ⟨_, rfl⟩
  rw [← hSL]
  have HR7 := Lib.hid (HR6.out.apart (Nat.ne_of_lt HRM.out) HLL.out (fun s hs => (HIN.out s hs).2.2) (t := 32) HM6.out 33 SL)
  have M7 := Lib.hid (cells_set HM6.out 33 SL)
  rw [refRow_set HLL.out] at M7
  have K7 := Lib.hid (K6.out.set (b' := mb) (.inr HWM.out) 33 SL)
  have Q7 := Lib.hid ((setCell_other _ mb 33 SL qb (Nat.ne_of_gt HQM.out)).trans Q6.out)
  have T7 := Lib.hid (T6.out.same (setCell_other _ mb 33 SL 0 (by have := HRW.out; have := HRM.out; omega)))
  have G7 : Hid (Gones ((w5.alloc (.cells #[.int .i64 (pl : Int)] 3)).setCell ⟨mb, 33, none⟩ SL) SL [pl]) := Lib.hid (by
    have hne : w5.heap.size ≠ mb := Nat.ne_of_gt (Nat.lt_trans HQM.out (lt_of_block Q5.out))
    have hb := (setCell_other (w5.alloc (.cells #[.int .i64 (pl : Int)] 3)) mb 33 SL w5.heap.size hne).trans G6.out
    refine ⟨some ⟨w5.heap.size, 0, none⟩, 1, w5.heap.size, 0, hSL, fun i hi => ?_⟩
    obtain rfl : i = 0 := by simpa using hi
    refine ⟨rfl, lt_of_block hb, ?_⟩
    rw [cell_of_row _ _ _ _ _ _ hb]
    rfl)
  clear c33 f33 HR6 HM6 K6 Q6 T6 G6 HW5
  generalize (w5.alloc (.cells #[.int .i64 (pl : Int)] 3)).setCell ⟨mb, 33, none⟩ SL = w6 at HR7 M7 K7 Q7 T7 G7 ⊢
  clear hSL HR5 K5 M5 Q5 T5
  have hkey := fun w => refkey_calls l HLL.out n HN32.out SL pl HPB.out w
  rw [← HK0.out, ← HKD.out] at hkey
  have hsame := fun w h1 h2 h3 => same_calls l HLL.out n HN32.out SL [pl] (fun t ht => by rw [List.mem_singleton.1 ht]; exact HPB.out) (by simp) rb sl' w h1 h2 h3 HIN.out (by rw [HLEN.out]; have := HN32.out; omega)
  have hseeds := fun w h => seeds_calls n _ rb sl' w h (fun s hs => (HIN.out s hs).2.2) (by rw [HLEN.out]; have := HN32.out; omega)
  obtain ⟨TS, hTS⟩ : ∃ TS, TS = refRow l n SL := ⟨_, rfl⟩
  rw [← hTS] at hkey hsame M7
  have HMI := Lib.hid (refRowInfo (show TS.size = 34 by rw [hTS]; exact refRow_size HLL.out n SL))
  have HKEY := Lib.hid hkey
  have HSAME := Lib.hid hsame
  have HSEEDS := Lib.hid hseeds
  clear hkey hsame hseeds hTS
  have heq := HEQ.out
  have HLQ := Lib.hid (fun w' (kk : Kept w6.heap.size w6.heap.size w6 w') => run_loadVar_row w' qb 23 23 KD (0, 0) _ ((kk.block qb (lt_of_block Q7.out) (Nat.ne_of_lt (lt_of_block Q7.out))).trans Q7.out) Tryd.underlying23 rfl HQI.out)
  have HLM := Lib.hid (fun w' (kk : Kept w6.heap.size w6.heap.size w6 w') => run_loadVar_row w' mb 32 32 TS (0, 0) _ ((kk.block mb (lt_of_block M7.out) (Nat.ne_of_lt (lt_of_block M7.out))).trans M7.out) Tryd.underlying32 rfl HMI.out)
  have HSM := Lib.hid (fun w' (kk : Kept w6.heap.size w6.heap.size w6 w') => HSAME.out w' (HR7.out.kept kk) (G7.out.kept kk (Nat.le_refl _)) (T7.out.kept kk T7.out.lt T7.out.lt))
  have HSD := Lib.hid (fun w' (kk : Kept w6.heap.size w6.heap.size w6 w') => (HSEEDS.out w' (HR7.out.kept kk)).mono (fun e w9 h => show (∃ a c, e = .returned (.slice a n c)) ∧ Kept w'.heap.size w'.heap.size w' w9 from by
    obtain ⟨v, rfl, ho, k⟩ := h
    obtain ⟨a, c, rfl⟩ := ho.slice
    rw [List.length_map, HLEN.out]
    exact ⟨⟨a, c, rfl⟩, k⟩))
  have gd := macGuard25
  have KD0 : Kept w6.heap.size w6.heap.size w6 w6.drew := (Kept.refl _ _ _).drew
  refine wp_region_noPanic ?_
  refine wp_region_held_drew (S := fun w' => Kept w6.heap.size w6.heap.size w6 w') (by kernel_rfl) (KD0) (fun hH => ?_)
  refine wpAnyH_ready (rs := [0]) (by kernel_rfl) (by simp) ?_
  refine AllReadyH.cons rfl (fun K hK => ?_) AllReadyH.nil
  rw [if_pos (by rfl)]
  go_simp
  go_wp2_with (go_at_call 6; refine (ppr_awake _).mono ?_; rintro e w7 ⟨rfl, kw7⟩)
  have Kw7 : Kept w6.heap.size w6.heap.size w6 w7 := KD0.trans (kw7.mono KD0.size (fun i hi _ => Nat.ne_of_lt (Nat.lt_of_lt_of_le hi KD0.size)))
  refine hK.out _ _ (Kw7) (fun hH => ?_)
  clear hK K
  refine wpAnyH_take_at (i := 1) 44 (.bool true) rfl rfl (by kernel_rfl) (by kernel_rfl) (by kernel_rfl) (fun _ _ _ h => h) (.inl ⟨by kernel_rfl, fun w9 _ => by go_simp⟩) hH ?_
  simp only [List.setIfInBounds_toArray, List.set_cons_zero, List.set_cons_succ]
  refine wpAnyH_take_at (i := 2) 45 (.int .i64 0) rfl rfl (by kernel_rfl) (by kernel_rfl) (by kernel_rfl) (fun _ _ _ h => h) (.inl ⟨by kernel_rfl, fun w9 _ => by go_simp⟩) hH ?_
  simp only [List.setIfInBounds_toArray, List.set_cons_zero, List.set_cons_succ]
  refine wpAnyH_take_at (i := 3) 46 (.bool true) rfl rfl (by kernel_rfl) (by kernel_rfl) (by kernel_rfl) (fun _ _ _ h => h) (.inl ⟨by kernel_rfl, fun w9 _ => by go_simp⟩) hH ?_
  simp only [List.setIfInBounds_toArray, List.set_cons_zero, List.set_cons_succ]
  refine wpAnyH_take_at (i := 4) 47 (.bool true) rfl rfl (by kernel_rfl) (by kernel_rfl) (by kernel_rfl) (fun _ _ _ h => h) (.inl ⟨by kernel_rfl, fun w9 _ => by go_simp⟩) hH ?_
  simp only [List.setIfInBounds_toArray, List.set_cons_zero, List.set_cons_succ]
  refine wpAnyH_take_at (i := 5) 48 (.bool true) rfl rfl (by kernel_rfl) (by kernel_rfl) (by kernel_rfl) (fun _ _ _ h => h) (.inl ⟨by kernel_rfl, fun w9 _ => by go_simp⟩) hH ?_
  simp only [List.setIfInBounds_toArray, List.set_cons_zero, List.set_cons_succ]
  refine wpAnyH_take_at (i := 6) 49 (.agg KD) rfl rfl (by kernel_rfl) (by kernel_rfl) (by kernel_rfl) (fun _ _ _ h => h) (yieldsIf_load_known (by kernel_rfl) 23 _ rfl (qb) (0) rfl (.agg KD) (fun w' hw' => HLQ.out w' hw')) hH ?_
  simp only [List.setIfInBounds_toArray, List.set_cons_zero, List.set_cons_succ]
  refine wpAnyH_take_at (i := 7) 50 (.agg TS) rfl rfl (by kernel_rfl) (by kernel_rfl) (by kernel_rfl) (fun _ _ _ h => h) (yieldsIf_load_known (by kernel_rfl) 32 _ rfl (mb) (0) rfl (.agg TS) (fun w' hw' => HLM.out w' hw')) hH ?_
  simp only [List.setIfInBounds_toArray, List.set_cons_zero, List.set_cons_succ]
  refine wpAnyH_take_at (i := 8) 51 (.int .i64 (pl : Int)) rfl rfl (by kernel_rfl) (by kernel_rfl) (by kernel_rfl) (fun _ _ _ h => h) (.inl ⟨by kernel_rfl, fun w9 _ => by go_simp⟩) hH ?_
  simp only [List.setIfInBounds_toArray, List.set_cons_zero, List.set_cons_succ]
  refine wpAnyH_ready (rs := [9]) (by kernel_rfl) (by simp) ?_
  refine AllReadyH.cons rfl (fun K hK => ?_) AllReadyH.nil
  rw [if_pos (by rfl)]
  go_simp
  go_wp2_with (go_at_call 10; refine (HKEY.out _).mono ?_; rintro e w8 ⟨rfl, kw8⟩)
  have Kw8 : Kept w6.heap.size w6.heap.size w6 w8 := Kw7.trans (kw8.mono Kw7.size (fun i hi _ => Nat.ne_of_lt (Nat.lt_of_lt_of_le hi Kw7.size)))
  refine hK.out _ _ (Kw8) (fun hH => ?_)
  clear hK K
  refine wpAnyH_take_at (i := 10) 53 (.bool true) rfl rfl (by kernel_rfl) (by kernel_rfl) (by kernel_rfl) (fun _ _ _ h => h) (.inl ⟨by kernel_rfl, fun w9 _ => by go_simp⟩) hH ?_
  simp only [List.setIfInBounds_toArray, List.set_cons_zero, List.set_cons_succ]
  refine wpAnyH_take_at (i := 11) 54 (.bool true) rfl rfl (by kernel_rfl) (by kernel_rfl) (by kernel_rfl) (fun _ _ _ h => h) (.inl ⟨by kernel_rfl, fun w9 _ => by go_simp⟩) hH ?_
  simp only [List.setIfInBounds_toArray, List.set_cons_zero, List.set_cons_succ]
  refine wpAnyH_take_at (i := 12) 55 (.bool true) rfl rfl (by kernel_rfl) (by kernel_rfl) (by kernel_rfl) (fun _ _ _ h => h) (.inl ⟨by kernel_rfl, fun w9 _ => by go_simp⟩) hH ?_
  simp only [List.setIfInBounds_toArray, List.set_cons_zero, List.set_cons_succ]
  refine wpAnyH_take_at (i := 13) 56 (.pointer (some ⟨rb, 0, none⟩)) rfl rfl (by kernel_rfl) (by kernel_rfl) (by kernel_rfl) (fun _ _ _ h => h) (.inl ⟨by kernel_rfl, fun w9 _ => by go_simp⟩) hH ?_
  simp only [List.setIfInBounds_toArray, List.set_cons_zero, List.set_cons_succ]
  refine wpAnyH_take_at (i := 14) 57 (.agg TS) rfl rfl (by kernel_rfl) (by kernel_rfl) (by kernel_rfl) (fun _ _ _ h => h) (yieldsIf_load_known (by kernel_rfl) 32 _ rfl (mb) (0) rfl (.agg TS) (fun w' hw' => HLM.out w' hw')) hH ?_
  simp only [List.setIfInBounds_toArray, List.set_cons_zero, List.set_cons_succ]
  refine wpAnyH_ready (rs := [15]) (by kernel_rfl) (by simp) ?_
  refine AllReadyH.cons rfl (fun K hK => ?_) AllReadyH.nil
  rw [if_pos (by rfl)]
  go_simp
  go_wp2_with (go_at_call 14; refine (HSM.out _ Kw8).mono ?_; rintro e w9 ⟨rfl, kw9⟩)
  have Kw9 : Kept w6.heap.size w6.heap.size w6 w9 := Kw8.trans (kw9.mono Kw8.size (fun i hi _ => Nat.ne_of_lt (Nat.lt_of_lt_of_le hi Kw8.size)))
  refine hK.out _ _ (Kw9) (fun hH => ?_)
  clear hK K
  refine wpAnyH_take_at (i := 16) 59 (.bool true) rfl rfl (by kernel_rfl) (by kernel_rfl) (by kernel_rfl) (fun _ _ _ h => h) (.inl ⟨by kernel_rfl, fun w9 _ => by go_simp⟩) hH ?_
  simp only [List.setIfInBounds_toArray, List.set_cons_zero, List.set_cons_succ]
  refine wpAnyH_take_at (i := 17) 60 (.bool true) rfl rfl (by kernel_rfl) (by kernel_rfl) (by kernel_rfl) (fun _ _ _ h => h) (.inl ⟨by kernel_rfl, fun w9 _ => by go_simp⟩) hH ?_
  simp only [List.setIfInBounds_toArray, List.set_cons_zero, List.set_cons_succ]
  refine wpAnyH_take_at (i := 18) 61 (.pointer (some ⟨rb, 0, none⟩)) rfl rfl (by kernel_rfl) (by kernel_rfl) (by kernel_rfl) (fun _ _ _ h => h) (.inl ⟨by kernel_rfl, fun w9 _ => by go_simp⟩) hH ?_
  simp only [List.setIfInBounds_toArray, List.set_cons_zero, List.set_cons_succ]
  refine wpAnyH_take_at (i := 21) 64 (.int .i64 (n : Int)) rfl rfl (by kernel_rfl) (by kernel_rfl) (by kernel_rfl) (fun _ _ _ h => h) (.inl ⟨by kernel_rfl, fun w9 _ => by go_simp⟩) hH ?_
  simp only [List.setIfInBounds_toArray, List.set_cons_zero, List.set_cons_succ]
  refine wpAnyH_ready (rs := [19]) (by kernel_rfl) (by simp) ?_
  refine AllReadyH.cons rfl (fun K hK => ?_) AllReadyH.nil
  rw [if_pos (by rfl)]
  go_simp
  go_wp2_with (go_at_call 18; refine (HSD.out _ Kw9).mono ?_; rintro e w10 ⟨⟨sa, sc, rfl⟩, kw10⟩)
  have Kw10 : Kept w6.heap.size w6.heap.size w6 w10 := Kw9.trans (kw10.mono Kw9.size (fun i hi _ => Nat.ne_of_lt (Nat.lt_of_lt_of_le hi Kw9.size)))
  refine hK.out _ _ (Kw10) (fun hH => ?_)
  clear hK K
  refine wpAnyH_take_at (i := 20) 63 (.int .i64 (n : Int)) rfl rfl (by kernel_rfl) (by kernel_rfl) (by kernel_rfl) (fun _ _ _ h => h) (.inl ⟨by kernel_rfl, fun w9 _ => by go_simp⟩) hH ?_
  simp only [List.setIfInBounds_toArray, List.set_cons_zero, List.set_cons_succ]
  refine wpAnyH_take_at (i := 22) 65 (.bool true) rfl rfl (by kernel_rfl) (by kernel_rfl) (by kernel_rfl) (fun _ _ _ h => h) (.inl ⟨by kernel_rfl, fun w9 _ => by go_simp⟩) hH ?_
  simp only [List.setIfInBounds_toArray, List.set_cons_zero, List.set_cons_succ]
  refine wpAnyH_take_at (i := 23) 66 (.bool true) rfl rfl (by kernel_rfl) (by kernel_rfl) (by kernel_rfl) (fun _ _ _ h => h) (.inl ⟨by kernel_rfl, fun w9 _ => by go_simp⟩) hH ?_
  simp only [List.setIfInBounds_toArray, List.set_cons_zero, List.set_cons_succ]
  refine wpAnyH_take_at (i := 24) 6 (.bool true) rfl rfl (by kernel_rfl) (by kernel_rfl) (by kernel_rfl) (fun _ _ _ h => h) (.inl ⟨by kernel_rfl, fun w9 _ => by go_simp⟩) hH ?_
  simp only [List.setIfInBounds_toArray, List.set_cons_zero, List.set_cons_succ]
  refine wpAnyH_done (by kernel_rfl) ?_ _
  refine NoPanic.normal ?_
  go_wp2
  go_ret
  exact ⟨rfl, K7.out.next1 Kw10⟩

end Go.Proofs.YtdnnccnicaoniaaDoor
