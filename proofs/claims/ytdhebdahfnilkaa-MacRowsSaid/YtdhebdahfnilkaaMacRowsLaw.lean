/-
  The walk of the statement MacRows: a row of bytes is the document's; a shorter one is its beginning.
-/
import Derived.Test.YtdhebdahfnilkaaMacMixesLaw
import Derived.Test.YtdhebdahfnilkaaMacStream
import Derived.Test.YtdhebdahfnilkaaMacRefStream
namespace Go.Proofs.Ytdhebdahfnilkaa
open Go.RowKit

/-- The place where a shorter row ends. -/
theorem short_row (less : Int) (m : Nat) (hm : m ≤ 5000) : ∃ q : Nat, q ≤ m ∧ wrap64 ((IntKind.u64.wrap less).tmod ((m : Int) + 1)) = (q : Int) := by
  have h0 : 0 ≤ IntKind.u64.wrap less := by rw [IntKind.wrap_u64]; omega
  generalize IntKind.u64.wrap less = x at h0
  rw [Int.tmod_eq_emod_of_nonneg h0]
  have h1 := Int.emod_nonneg x (show ((m : Int) + 1) ≠ 0 by omega)
  have h2 := Int.emod_lt_of_pos x (show 0 < ((m : Int) + 1) by omega)
  generalize x % ((m : Int) + 1) = r at h1 h2
  refine ⟨r.toNat, by omega, ?_⟩
  unfold wrap64
  omega

set_option maxRecDepth 100000 in
set_option maxHeartbeats 1600000 in
theorem macrows_walk (l : List UInt8) (hl : l.length = 32) (n less : Int) (w : World) : Calls Try.prog 5 #[.agg (bcells l).toArray, .int .i64 n, .int .i64 less] w fun e w' => e = .returned (.bool true) ∧ Kept w.heap.size w.heap.size w w' := by
  have hcl : (bcells l).toArray.size = 32 := by rw [List.size_toArray, bcells_length, hl]
  have h0 := fun n h w => stream_none l n h w
  have h1 := fun n h1 h2 w => stream_calls l (Lib.hid hl) n h1 h2 w
  have h2 := fun n h2 w => refstream_calls l (Lib.hid hl) n h2 w
  generalize (bcells l).toArray = ck at hcl h0 h1 h2 ⊢
  have H0 := Lib.hid h0
  have H1 := Lib.hid h1
  have H2 := Lib.hid h2
  clear h0 h1 h2
  go_enter Try.func5, Try.ntmps5
  go_upto_region 1 with fail
  have hA : (w.alloc (.cells ck 25)).heap[w.heap.size]? = some (.cells ck 25 (0, 0)) := heap_new _ _
  have k1 : Kept w.heap.size w.heap.size w (w.alloc (.cells ck 25)) := (Kept.refl _ _ _).alloc (Nat.le_refl _) _
  have s1 : (w.alloc (.cells ck 25)).heap.size = w.heap.size + 1 := by simp
  generalize w.alloc (.cells ck 25) = w1 at hA k1 s1 ⊢
  obtain ⟨wa, hwa⟩ : ∃ wa, wa = w.heap.size := ⟨_, rfl⟩
  rw [← hwa] at hA k1 s1 ⊢
  have hrow : ∀ w', Kept w1.heap.size w1.heap.size w1 w' → w'.heap[wa]? = some (.cells ck 25 (0, 0)) := fun w' kk => (kk.block wa (by omega) (by omega)).trans hA
  have hia : (Try.prog.info? 25).map (·.size) = some ck.size := by rw [shaInfo30, hcl]
  have stop : ∀ e w', (e = Ending.returned (.bool true) ∧ Kept w1.heap.size w1.heap.size w1 w') → (e = Ending.returned (.bool true) ∧ Kept w.heap.size w.heap.size w w') := fun e w' ⟨h1, h2⟩ => ⟨h1, by rw [← hwa]; exact k1.trans (h2.mono (by omega) (fun k hk _ => by omega))⟩
  have Stop := Lib.hid stop
  have HR := Lib.hid hrow
  have HIA := Lib.hid hia
  clear stop hrow hia hA k1 s1 hwa
  go_wp2_with fail
  refine (mac_awake _).mono ?_
  rintro e w2 ⟨rfl, k2⟩
  by_cases hn1 : n < 1
  · have hd1 : decide (n < 1) = true := decide_eq_true hn1
    go_wp2_with (with_reducible refine wpList_load_row_g (by with_unfolding_all rfl) 25 _ rfl wa rfl 25 ck (0, 0) _ (HR.out _ k2) Try.underlying25 rfl HIA.out ?_)
    refine (H0.out n (.inl hn1) w2).mono ?_
    rintro e w3 ⟨rfl, k3⟩
    go_wp2
    go_ret
    exact Stop.out _ _ ⟨rfl, k2.trans (k3.mono k2.size (fun k hk _ => by have := k2.size; omega))⟩
  · have hd1 : decide (n < 1) = false := decide_eq_false hn1
    by_cases hn2 : decide ((65536 : Int) < n) = true
    · go_wp2_with (with_reducible refine wpList_load_row_g (by with_unfolding_all rfl) 25 _ rfl wa rfl 25 ck (0, 0) _ (HR.out _ k2) Try.underlying25 rfl HIA.out ?_)
      refine (H0.out n (.inr hn2) w2).mono ?_
      rintro e w3 ⟨rfl, k3⟩
      go_wp2
      go_ret
      exact Stop.out _ _ ⟨rfl, k2.trans (k3.mono k2.size (fun k hk _ => by have := k2.size; omega))⟩
    · have hd2 : decide ((65536 : Int) < n) = false := by simpa using hn2
      by_cases hn3 : 3000 < n
      · have hd3 : decide ((3000 : Int) < n) = true := decide_eq_true hn3
        go_wp2
        go_ret
        exact Stop.out _ _ ⟨rfl, k2⟩
      · have hd3 : decide ((3000 : Int) < n) = false := decide_eq_false hn3
        obtain ⟨m, rfl⟩ : ∃ m : Nat, n = (m : Int) := ⟨n.toNat, by omega⟩
        have hm3 : m ≤ 3000 := by omega
        clear hn2
        go_wp2_with (with_reducible refine wpList_load_row_g (by with_unfolding_all rfl) 25 _ rfl wa rfl 25 ck (0, 0) _ (HR.out _ k2) Try.underlying25 rfl HIA.out ?_)
        refine (H1.out m (Lib.hid (by omega)) (Lib.hid (by omega)) w2).mono ?_
        rintro e w3 ⟨rfl, k3⟩
        have k3' := k2.trans (k3.mono k2.size (fun k hk _ => by have := k2.size; omega))
        go_wp2_with fail
        obtain ⟨q, hq, hqe⟩ := short_row less m (by omega)
        rw [hqe]
        have hK : ∀ w, Calls Try.prog 16 #[.agg ck, .int .i64 (q : Int)] w fun e w' => e = .returned (.string (str (Mc.stream l q))) ∧ Kept w.heap.size w.heap.size w w' := fun w => by
          by_cases hq0 : q = 0
          · subst hq0
            have := H0.out 0 (.inl (by decide)) w
            rw [Mc.stream_zero]
            exact this
          · exact H1.out q (Lib.hid (by omega)) (Lib.hid (by omega)) w
        have hN := fun w => H2.out m (Lib.hid hm3) w
        have hx : (str (Mc.stream l m)).extract 0 q = str (Mc.stream l q) := by rw [str_take, Mc.stream_take l m q hq]
        have hsz : (str (Mc.stream l m)).size = m := by rw [str_size, Mc.stream_length]
        generalize str (Mc.stream l m) = sM at hN hx hsz ⊢
        generalize str (Mc.stream l q) = sQ at hK hx
        have HK := Lib.hid hK
        have HN := Lib.hid hN
        have hr := fun w' => range_regrown (w := w3) (HR.out w3 k3') w'
        have HRR := Lib.hid hr
        have hqm : (q : Int) ≤ (m : Int) := by omega
        have hq0 : ¬ (q : Int) < 0 := by omega
        clear hK hN hr H0 H1 H2 hqe
        refine wp_region_quiet_below (by kernel_rfl) (by kernel_rfl) ?_
        repeat
          first
            | (refine wpQuiet_load_row 25 _ rfl wa rfl ck _ HRR.out Try.underlying25 rfl HIA.out rfl ?_; go_simp)
            | (quiet_step (first | (go_at_call 16; exact kept_regrown HK.out) | (go_at_call 17; exact kept_regrown HN.out)))
        refine wpQuiet_nil ?_
        intro p
        have k4 := regrown_kept (w := w3) ⟨p, rfl⟩
        generalize Go.Sort.grow (redrawn w3 p.d) p.os = w4 at k4 ⊢
        go_wp2
        go_ret
        exact Stop.out _ _ ⟨rfl, k3'.trans (k4.mono k3'.size (fun k hk _ => by have := k3'.size; omega))⟩

end Go.Proofs.Ytdhebdahfnilkaa
