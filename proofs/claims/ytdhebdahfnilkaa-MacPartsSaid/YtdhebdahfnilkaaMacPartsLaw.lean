/-
  The walk of the statement MacParts: a key made of a key is the code of the label's length, the label and the context.
-/
import Derived.Test.YtdhebdahfnilkaaMacMixesLaw
import Derived.Deep.RegionHeld3
namespace Go.Proofs.Ytdhebdahfnilkaa
open Go.RowKit

/-- The place where the text is parted. -/
theorem cut_place (cut : Int) (m : Nat) (hm : m ≤ 5000) : ∃ q : Nat, q ≤ m ∧ wrap64 ((IntKind.u64.wrap cut).tmod ((m : Int) + 1)) = (q : Int) := by
  have h0 : 0 ≤ IntKind.u64.wrap cut := by rw [IntKind.wrap_u64]; omega
  generalize IntKind.u64.wrap cut = x at h0
  rw [Int.tmod_eq_emod_of_nonneg h0]
  have h1 := Int.emod_nonneg x (show ((m : Int) + 1) ≠ 0 by omega)
  have h2 := Int.emod_lt_of_pos x (show 0 < ((m : Int) + 1) by omega)
  generalize x % ((m : Int) + 1) = r at h1 h2
  refine ⟨r.toNat, by omega, ?_⟩
  unfold wrap64
  omega

theorem parted (s : ByteArray) (q : Nat) (hq : q ≤ s.size) : (s.extract 0 q).data.toList ++ (s.extract q s.size).data.toList = s.data.toList ∧ (s.extract 0 q).data.toList.length = q := by
  obtain ⟨m, rfl⟩ : ∃ m, s = str m := ⟨s.data.toList, (str_of s).symm⟩
  rw [str_take, str_drop]
  rw [str_size] at hq
  exact ⟨List.take_append_drop q m, by show (m.take q).length = q; rw [List.length_take]; omega⟩

/-- An operation of a region taken first, its slot named. -/
theorem wpAnyH_take_at {P : Program} {ops : Array Oper} {Q : Exit → Act → World → Prop} {md : Region.Mode} {S : World → Prop} {i : Nat} {oi : Oper} (d : Tmp) (v : Value) {fuel : Nat} {listed : Array Bool} {tm : Array Value} {df : List Deferred} {w : World} (hi : ops[i]? = some oi) (hd : oi.dst = some d)
    (hs : Region.noSelect ops = true) (hf : Region.free md ops listed i = true) (hr : (Region.ready md ops listed).contains i = true)
    (hQ : ∀ c a w, Q (.panic c) (a.put oi.dst v) w → Q (.panic c) a w) (hy : YieldsIf P ops S oi v ⟨tm, df⟩) (hS : S w)
    (h : wpAnyH P md ops Q S fuel (listed.setIfInBounds i true) ⟨tm.setIfInBounds d v, df⟩ w) : wpAnyH P md ops Q S (fuel + 1) listed ⟨tm, df⟩ w :=
  wpAnyH_take hi hs hf hr hQ hy hS (by rw [hd]; exact h)

set_option maxRecDepth 100000 in
set_option maxHeartbeats 6400000 in
theorem macparts_walk (l : List UInt8) (hl : l.length = 32) (s : ByteArray) (cut : Int) (w : World) : Calls Try.prog 6 #[.agg (bcells l).toArray, .string s, .int .i64 cut] w fun e w' => e = .returned (.bool true) ∧ Kept w.heap.size w.heap.size w w' := by
  have hcl : (bcells l).length = 32 := by rw [bcells_length, hl]
  obtain ⟨ll, hll⟩ : ∃ ll, ll = bcells l := ⟨_, rfl⟩
  rw [← hll] at hcl ⊢
  have HLL := Lib.hid hll
  clear hll
  go_enter Try.func6, Try.ntmps6
  go_upto_region 1 with fail
  have hA : (w.alloc (.cells ll.toArray 25)).heap[w.heap.size]? = some (.cells ll.toArray 25 (0, 0)) := heap_new _ _
  have k1 : Kept w.heap.size w.heap.size w (w.alloc (.cells ll.toArray 25)) := (Kept.refl _ _ _).alloc (Nat.le_refl _) _
  have s1 : (w.alloc (.cells ll.toArray 25)).heap.size = w.heap.size + 1 := by simp
  generalize w.alloc (.cells ll.toArray 25) = w1 at hA k1 s1 ⊢
  obtain ⟨wa, hwa⟩ : ∃ wa, wa = w.heap.size := ⟨_, rfl⟩
  rw [← hwa] at hA k1 s1 ⊢
  have hrow : ∀ w', Kept w1.heap.size w1.heap.size w1 w' → w'.heap[wa]? = some (.cells ll.toArray 25 (0, 0)) := fun w' kk => (kk.block wa (by omega) (by omega)).trans hA
  have stop : ∀ e w', (e = Ending.returned (.bool true) ∧ Kept w1.heap.size w1.heap.size w1 w') → (e = Ending.returned (.bool true) ∧ Kept w.heap.size w.heap.size w w') := fun e w' ⟨h1, h2⟩ => ⟨h1, by rw [← hwa]; exact k1.trans (h2.mono (by omega) (fun k hk _ => by omega))⟩
  have hlt1 : wa < w1.heap.size := by omega
  have Stop := Lib.hid stop
  have HR := Lib.hid hrow
  have HLT := Lib.hid hlt1
  clear stop hrow hA k1 s1 hwa hlt1
  by_cases hz : 5000 < s.size
  · have hd : decide ((5000 : Int) < (s.size : Int)) = true := decide_eq_true (by omega)
    go_wp2_with fail
    refine (mac_awake _).mono ?_
    rintro e w2 ⟨rfl, k2⟩
    go_wp2_with fail
    refine (mac_awake _).mono ?_
    rintro e w3 ⟨rfl, k3⟩
    go_wp2
    go_ret
    exact Stop.out _ _ ⟨rfl, k2.trans (k3.mono k2.size (fun k hk _ => by have := k2.size; omega))⟩
  · have hd : decide ((5000 : Int) < (s.size : Int)) = false := decide_eq_false (by omega)
    have hs5 : s.size ≤ 5000 := by omega
    go_wp2_with fail
    refine (mac_awake _).mono ?_
    rintro e w2 ⟨rfl, k2⟩
    have HK2 := Lib.hid k2
    clear k2 hz
    obtain ⟨q, hq, hqe⟩ := cut_place cut s.size hs5
    have e3 : wrap64 ((q : Int).tdiv 256) % 256 = (((UInt8.ofNat (q / 256)).toNat : Nat) : Int) := by
      rw [← byte_of, show (q : Int).tdiv 256 = ((q / 256 : Nat) : Int) from Int.tdiv_eq_ediv_of_nonneg (by omega)]
      have : wrap64 ((q / 256 : Nat) : Int) = ((q / 256 : Nat) : Int) := by unfold wrap64; omega
      rw [this]
    have e4 : ((q : Int).tmod 256) % 256 = (((UInt8.ofNat q).toNat : Nat) : Int) := by
      rw [← byte_of, Int.tmod_eq_emod_of_nonneg (by omega)]
      omega
    have h4 : Mc.four q = [0, 0, UInt8.ofNat (q / 256), UInt8.ofNat q] := by
      rw [Mc.four, show q / 16777216 = 0 by omega, show q / 65536 = 0 by omega]
      rfl
    have hcf : (convert 38 9 (.slice (some ⟨w2.heap.size, 0, none⟩) 4 4)).run Try.prog (w2.alloc (.cells #[.int .u8 0, .int .u8 0, .int .u8 ((UInt8.ofNat (q / 256)).toNat : Int), .int .u8 ((UInt8.ofNat q).toNat : Int)] 5)) = .ok (.string (str (Mc.four q))) (w2.alloc (.cells #[.int .u8 0, .int .u8 0, .int .u8 ((UInt8.ofNat (q / 256)).toNat : Int), .int .u8 ((UInt8.ofNat q).toNat : Int)] 5)) := by
      rw [h4]
      exact conv_four w2 0 0 _ _
    have k3 := HK2.out.alloc HK2.out.size (.cells #[.int .u8 0, .int .u8 0, .int .u8 ((UInt8.ofNat (q / 256)).toNat : Int), .int .u8 ((UInt8.ofNat q).toNat : Int)] 5)
    generalize UInt8.ofNat (q / 256) = xa at e3 hcf k3
    generalize UInt8.ofNat q = xb at e4 hcf k3
    have Hqe := Lib.hid hqe
    have E3 := Lib.hid e3
    have E4 := Lib.hid e4
    have Hcf := Lib.hid hcf
    have HK3 := Lib.hid k3
    have hqs : (q : Int) ≤ (s.size : Int) := by omega
    have hq0 : ¬ (q : Int) < 0 := by omega
    clear hqe e3 e4 h4 hcf k3
    go_wp2_with fail
    rw [Hqe.out, E3.out, E4.out, Hcf.out]
    generalize w2.alloc (.cells #[.int .u8 0, .int .u8 0, .int .u8 (xa.toNat : Int), .int .u8 (xb.toNat : Int)] 5) = w3 at HK3 ⊢
    go_upto_region 5 with fail
    have hN : wa < w3.heap.size := by have := HLT.out; have := HK3.out.size; omega
    have hrow3 : ∀ w', Kept w3.heap.size w3.heap.size w3 w' → w'.heap[wa]? = some (.cells ll.toArray 25 (0, 0)) := fun w' kk => (kk.block wa hN (by omega)).trans (HR.out w3 HK3.out)
    have hS : ∀ w', Kept w3.heap.size w3.heap.size w3 w' → (w'.rangeAt wa 0 ll ∧ (convert 38 9 (.slice (some ⟨wa, 0, none⟩) 32 32)).run Try.prog w' = .ok (.string (str l)) w') := fun w' kk => by
      have h := World.rangeAt_of_block (hrow3 w' kk) 0 32
      rw [show (ll.toArray.extract 0 (0 + 32)).toList = ll by
        rw [Array.toList_extract, List.extract_eq_take_drop, List.drop_zero]
        exact List.take_of_length_le (by show ll.length ≤ _; omega)] at h
      exact ⟨h, conv_hash hl (by rw [← HLL.out]; exact hrow3 w' kk)⟩
    obtain ⟨hpt, hpl⟩ := parted s q hq
    have hder : Mc.derive l (s.extract 0 q).data.toList (s.extract q s.size).data.toList = Mc.code l (Mc.four q ++ s.data.toList) := by rw [Mc.derive, hpl, List.append_assoc, hpt]
    have hD : ∀ w, Calls Try.prog 12 #[.agg ll.toArray, .string (s.extract 0 q), .string (s.extract q s.size)] w fun e w' => e = .returned (.agg (bcells (Mc.code l (Mc.four q ++ s.data.toList))).toArray) ∧ Kept w.heap.size w.heap.size w w' := fun w => by
      have := derive_calls l (Lib.hid hl) (s.extract 0 q) (s.extract q s.size) (Lib.hid (by rw [ByteArray.size_extract]; omega)) (Lib.hid (by rw [ByteArray.size_extract]; omega)) w
      rw [hder, ← HLL.out] at this
      exact this
    have hC : ∀ (W : World) (B : Nat), B < W.heap.size → W.cell? ⟨B, 0, none⟩ = some (.string (str (Mc.four q))) → W.cell? ⟨B, 1, none⟩ = some (.string s) → Calls Try.prog 10 #[.string (str l), .slice (some ⟨B, 0, none⟩) 2 2] W fun e w' => e = .returned (.agg (bcells (Mc.code l (Mc.four q ++ s.data.toList))).toArray) ∧ Kept W.heap.size W.heap.size W w' := fun W B hB h0 h1 => by
      have hj : joined [str (Mc.four q), s] [str (Mc.four q), s].length = Mc.four q ++ s.data.toList := by simp [joined]
      have hsl : s.data.toList.length = s.size := by simp
      have := code_calls (str l) (Lib.hid (by rw [str_size, hl]; decide)) [str (Mc.four q), s] (some ⟨B, 0, none⟩) 2 B 0 W (Lib.hid (by show 2 < _; decide)) (Lib.hid (by rw [hj, List.length_append, Mc.four_length, hsl]; omega)) (Lib.hid fun h => by cases h) (fun j hj => by
        have hj' : j = 0 ∨ j = 1 := by simp at hj; omega
        rcases hj' with rfl | rfl
        · exact ⟨rfl, hB, h0⟩
        · exact ⟨rfl, hB, h1⟩)
      rw [hj] at this
      exact this
    have hM : ∀ w, Calls Try.prog 14 #[.agg ll.toArray, .agg ll.toArray] w fun e w' => e = .returned (.agg (bcells (Mc.code l l)).toArray) ∧ Kept w.heap.size w.heap.size w w' := fun w => by
      have := macmix_calls l l (Lib.hid hl) (Lib.hid hl) w
      rw [← HLL.out] at this
      exact this
    have hC2 : ∀ (W : World) (B : Nat), B < W.heap.size → W.cell? ⟨B, 0, none⟩ = some (.string (str l)) → Calls Try.prog 10 #[.string (str l), .slice (some ⟨B, 0, none⟩) 1 1] W fun e w' => e = .returned (.agg (bcells (Mc.code l l)).toArray) ∧ Kept W.heap.size W.heap.size W w' := fun W B hB h0 => by
      have hj : joined [str l] [str l].length = l := by simp [joined]
      have := code_calls (str l) (Lib.hid (by rw [str_size, hl]; decide)) [str l] (some ⟨B, 0, none⟩) 1 B 0 W (Lib.hid (by show 1 < _; decide)) (Lib.hid (by rw [hj, hl]; decide)) (Lib.hid fun h => by cases h) (fun j hj => by
        obtain rfl : j = 0 := by simp at hj; omega
        exact ⟨rfl, hB, h0⟩)
      rw [hj] at this
      exact this
    have heq := fun w => mac_equalIn w (Mc.code l (Mc.four q ++ s.data.toList)) (Mc.code_length _ _)
    have heq2 := fun w => mac_equalIn w (Mc.code l l) (Mc.code_length _ _)
    have gd := macGuard25
    have hia : (Try.prog.info? 25).map (·.size) = some ll.length := by rw [shaInfo30, hcl]
    have KD : Kept w3.heap.size w3.heap.size w3 w3.drew := (Kept.refl _ _ _).drew
    generalize (bcells (Mc.code l (Mc.four q ++ s.data.toList))).toArray = cu at hD hC heq
    generalize (bcells (Mc.code l l)).toArray = cv at hM hC2 heq2
    generalize str (Mc.four q) = s4 at hC ⊢
    generalize str l = sk at hS hC hC2
    have HS := Lib.hid hS
    have HD := Lib.hid hD
    have HC := Lib.hid hC
    have HM := Lib.hid hM
    have HC2 := Lib.hid hC2
    have HIA := Lib.hid hia
    clear hS hD hC hM hC2 hia hder hpt hpl hrow3 hcl
    refine wp_region_noPanic ?_
    refine wp_region_held_drew (S := fun w' => w'.rangeAt wa 0 ll ∧ (convert 38 9 (.slice (some ⟨wa, 0, none⟩) 32 32)).run Try.prog w' = .ok (.string sk) w') (by kernel_rfl) (HS.out _ KD) (fun hH => ?_)
    refine wpAnyH_take_at (i := 0) 33 (.agg ll.toArray) rfl rfl (by kernel_rfl) (by kernel_rfl) (by kernel_rfl) (fun _ _ _ h => h) (yieldsIf_load_mid (by rfl) 25 _ rfl wa 0 rfl ll _ (fun _ h => h.1) Try.underlying25 rfl HIA.out) hH ?_
    simp only [List.setIfInBounds_toArray, List.set_cons_zero, List.set_cons_succ]
    refine wpAnyH_take_at (i := 1) 34 (.string s) rfl rfl (by kernel_rfl) (by kernel_rfl) (by kernel_rfl) (fun _ _ _ h => h) (.inl ⟨by rfl, fun w9 _ => by go_simp⟩) hH ?_
    simp only [List.setIfInBounds_toArray, List.set_cons_zero, List.set_cons_succ]
    refine wpAnyH_take_at (i := 2) 35 (.int .i64 (q : Int)) rfl rfl (by kernel_rfl) (by kernel_rfl) (by kernel_rfl) (fun _ _ _ h => h) (.inl ⟨by rfl, fun w9 _ => by go_simp⟩) hH ?_
    simp only [List.setIfInBounds_toArray, List.set_cons_zero, List.set_cons_succ]
    refine wpAnyH_take_at (i := 3) 36 (.string (s.extract 0 q)) rfl rfl (by kernel_rfl) (by kernel_rfl) (by kernel_rfl) (fun _ _ _ h => h) (.inl ⟨by rfl, fun w9 _ => by go_simp⟩) hH ?_
    simp only [List.setIfInBounds_toArray, List.set_cons_zero, List.set_cons_succ]
    refine wpAnyH_take_at (i := 4) 37 (.string s) rfl rfl (by kernel_rfl) (by kernel_rfl) (by kernel_rfl) (fun _ _ _ h => h) (.inl ⟨by rfl, fun w9 _ => by go_simp⟩) hH ?_
    simp only [List.setIfInBounds_toArray, List.set_cons_zero, List.set_cons_succ]
    refine wpAnyH_take_at (i := 5) 38 (.int .i64 (q : Int)) rfl rfl (by kernel_rfl) (by kernel_rfl) (by kernel_rfl) (fun _ _ _ h => h) (.inl ⟨by rfl, fun w9 _ => by go_simp⟩) hH ?_
    simp only [List.setIfInBounds_toArray, List.set_cons_zero, List.set_cons_succ]
    refine wpAnyH_take_at (i := 6) 39 (.string (s.extract q s.size)) rfl rfl (by kernel_rfl) (by kernel_rfl) (by kernel_rfl) (fun _ _ _ h => h) (.inl ⟨by rfl, fun w9 _ => by go_simp⟩) hH ?_
    simp only [List.setIfInBounds_toArray, List.set_cons_zero, List.set_cons_succ]
    refine wpAnyH_take_at (i := 8) 41 ((.slice (some ⟨wa, 0, none⟩) 32 32)) rfl rfl (by kernel_rfl) (by kernel_rfl) (by kernel_rfl) (fun _ _ _ h => h) (.inl ⟨by rfl, fun w9 _ => by go_simp⟩) hH ?_
    simp only [List.setIfInBounds_toArray, List.set_cons_zero, List.set_cons_succ]
    refine wpAnyH_take_at (i := 9) 42 (.string sk) rfl rfl (by kernel_rfl) (by kernel_rfl) (by kernel_rfl) (fun _ _ _ h => h) (.inl ⟨by rfl, fun w9 h9 => by have h8 := h9.2; go_simp⟩) hH ?_
    simp only [List.setIfInBounds_toArray, List.set_cons_zero, List.set_cons_succ]
    refine wpAnyH_take_at (i := 10) 43 (.string s4) rfl rfl (by kernel_rfl) (by kernel_rfl) (by kernel_rfl) (fun _ _ _ h => h) (.inl ⟨by rfl, fun w9 _ => by go_simp⟩) hH ?_
    simp only [List.setIfInBounds_toArray, List.set_cons_zero, List.set_cons_succ]
    refine wpAnyH_take_at (i := 11) 44 (.string s) rfl rfl (by kernel_rfl) (by kernel_rfl) (by kernel_rfl) (fun _ _ _ h => h) (.inl ⟨by rfl, fun w9 _ => by go_simp⟩) hH ?_
    simp only [List.setIfInBounds_toArray, List.set_cons_zero, List.set_cons_succ]
    refine wpAnyH_ready (rs := [7, 12]) (by kernel_rfl) (by simp) ?_
    refine AllReadyH.cons rfl (fun K hK => ?_) ?_
    · rw [if_pos (by rfl)]
      go_simp
      go_wp2_with (go_at_call 12; refine (HD.out _).mono ?_; rintro e w5 ⟨rfl, k5⟩)
      have K5 : Kept w3.heap.size w3.heap.size w3 w5 := KD.trans (k5.mono (KD.size) (fun k hk _ => Nat.ne_of_lt (Nat.lt_of_lt_of_le hk KD.size)))
      refine hK.out _ _ (HS.out _ K5) (fun hH => ?_)
      clear hK K
      refine wpAnyH_ready (rs := [12]) (by kernel_rfl) (by simp) ?_
      refine AllReadyH.cons rfl (fun K hK => ?_) ?_
      · rw [if_pos (by rfl)]
        go_simp
        have KB := K5.alloc K5.size (.cells #[.string s4, .string s] 9)
        refine hK.out _ _ (HS.out _ KB) (fun hH => ?_)
        clear hK K
        refine wpAnyH_ready (rs := [13]) (by kernel_rfl) (by simp) ?_
        refine AllReadyH.cons rfl (fun K hK => ?_) ?_
        · rw [if_pos (by rfl)]
          go_simp
          have hc0 : (w5.alloc (.cells #[.string s4, .string s] 9)).cell? ⟨w5.heap.size, 0, none⟩ = some (.string s4) := World.cell?_alloc_new w5 _ _ 0
          have hc1 : (w5.alloc (.cells #[.string s4, .string s] 9)).cell? ⟨w5.heap.size, 1, none⟩ = some (.string s) := World.cell?_alloc_new w5 _ _ 1
          go_wp2_with (go_at_call 10; refine (HC.out (w5.alloc (.cells #[.string s4, .string s] 9)) (w5.heap.size) (by simp) hc0 hc1).mono ?_; rintro e w6 ⟨rfl, k6⟩)
          have K6 : Kept w3.heap.size w3.heap.size w3 w6 := KB.trans (k6.mono (KB.size) (fun k hk _ => Nat.ne_of_lt (Nat.lt_of_lt_of_le hk KB.size)))
          refine hK.out _ _ (HS.out _ K6) (fun hH => ?_)
          clear hK K
          refine wpAnyH_take_at (i := 14) 47 (.bool true) rfl rfl (by kernel_rfl) (by kernel_rfl) (by kernel_rfl) (fun _ _ _ h => h) (.inl ⟨by rfl, fun w9 _ => by go_simp⟩) hH ?_
          simp only [List.setIfInBounds_toArray, List.set_cons_zero, List.set_cons_succ]
          refine wpAnyH_take_at (i := 15) 48 (.bool true) rfl rfl (by kernel_rfl) (by kernel_rfl) (by kernel_rfl) (fun _ _ _ h => h) (.inl ⟨by rfl, fun w9 _ => by go_simp⟩) hH ?_
          simp only [List.setIfInBounds_toArray, List.set_cons_zero, List.set_cons_succ]
          refine wpAnyH_take_at (i := 16) 49 (.agg ll.toArray) rfl rfl (by kernel_rfl) (by kernel_rfl) (by kernel_rfl) (fun _ _ _ h => h) (yieldsIf_load_mid (by rfl) 25 _ rfl wa 0 rfl ll _ (fun _ h => h.1) Try.underlying25 rfl HIA.out) hH ?_
          simp only [List.setIfInBounds_toArray, List.set_cons_zero, List.set_cons_succ]
          refine wpAnyH_take_at (i := 17) 50 (.agg ll.toArray) rfl rfl (by kernel_rfl) (by kernel_rfl) (by kernel_rfl) (fun _ _ _ h => h) (yieldsIf_load_mid (by rfl) 25 _ rfl wa 0 rfl ll _ (fun _ h => h.1) Try.underlying25 rfl HIA.out) hH ?_
          simp only [List.setIfInBounds_toArray, List.set_cons_zero, List.set_cons_succ]
          refine wpAnyH_take_at (i := 19) 52 ((.slice (some ⟨wa, 0, none⟩) 32 32)) rfl rfl (by kernel_rfl) (by kernel_rfl) (by kernel_rfl) (fun _ _ _ h => h) (.inl ⟨by rfl, fun w9 _ => by go_simp⟩) hH ?_
          simp only [List.setIfInBounds_toArray, List.set_cons_zero, List.set_cons_succ]
          refine wpAnyH_take_at (i := 20) 53 (.string sk) rfl rfl (by kernel_rfl) (by kernel_rfl) (by kernel_rfl) (fun _ _ _ h => h) (.inl ⟨by rfl, fun w9 h9 => by have h8 := h9.2; go_simp⟩) hH ?_
          simp only [List.setIfInBounds_toArray, List.set_cons_zero, List.set_cons_succ]
          refine wpAnyH_take_at (i := 21) 54 ((.slice (some ⟨wa, 0, none⟩) 32 32)) rfl rfl (by kernel_rfl) (by kernel_rfl) (by kernel_rfl) (fun _ _ _ h => h) (.inl ⟨by rfl, fun w9 _ => by go_simp⟩) hH ?_
          simp only [List.setIfInBounds_toArray, List.set_cons_zero, List.set_cons_succ]
          refine wpAnyH_take_at (i := 22) 55 (.string sk) rfl rfl (by kernel_rfl) (by kernel_rfl) (by kernel_rfl) (fun _ _ _ h => h) (.inl ⟨by rfl, fun w9 h9 => by have h8 := h9.2; go_simp⟩) hH ?_
          simp only [List.setIfInBounds_toArray, List.set_cons_zero, List.set_cons_succ]
          refine wpAnyH_ready (rs := [18, 23]) (by kernel_rfl) (by simp) ?_
          refine AllReadyH.cons rfl (fun K hK => ?_) ?_
          · rw [if_pos (by rfl)]
            go_simp
            go_wp2_with (go_at_call 14; refine (HM.out _).mono ?_; rintro e x5 ⟨rfl, j5⟩)
            have J5 : Kept w3.heap.size w3.heap.size w3 x5 := K6.trans (j5.mono (K6.size) (fun k hk _ => Nat.ne_of_lt (Nat.lt_of_lt_of_le hk K6.size)))
            refine hK.out _ _ (HS.out _ J5) (fun hH => ?_)
            clear hK K
            refine wpAnyH_ready (rs := [23]) (by kernel_rfl) (by simp) ?_
            refine AllReadyH.cons rfl (fun K hK => ?_) ?_
            · rw [if_pos (by rfl)]
              go_simp
              have JB := J5.alloc J5.size (.cells #[.string sk] 9)
              refine hK.out _ _ (HS.out _ JB) (fun hH => ?_)
              clear hK K
              refine wpAnyH_ready (rs := [24]) (by kernel_rfl) (by simp) ?_
              refine AllReadyH.cons rfl (fun K hK => ?_) ?_
              · rw [if_pos (by rfl)]
                go_simp
                have hcell : (x5.alloc (.cells #[.string sk] 9)).cell? ⟨x5.heap.size, 0, none⟩ = some (.string sk) := World.cell?_alloc_new x5 _ _ 0
                go_wp2_with (go_at_call 10; refine (HC2.out (x5.alloc (.cells #[.string sk] 9)) (x5.heap.size) (by simp) hcell).mono ?_; rintro e x6 ⟨rfl, j6⟩)
                have J6 : Kept w3.heap.size w3.heap.size w3 x6 := JB.trans (j6.mono (JB.size) (fun k hk _ => Nat.ne_of_lt (Nat.lt_of_lt_of_le hk JB.size)))
                refine hK.out _ _ (HS.out _ J6) (fun hH => ?_)
                clear hK K
                refine wpAnyH_take_at (i := 25) 58 (.bool true) rfl rfl (by kernel_rfl) (by kernel_rfl) (by kernel_rfl) (fun _ _ _ h => h) (.inl ⟨by rfl, fun w9 _ => by go_simp⟩) hH ?_
                simp only [List.setIfInBounds_toArray, List.set_cons_zero, List.set_cons_succ]
                refine wpAnyH_take_at (i := 26) 59 (.bool true) rfl rfl (by kernel_rfl) (by kernel_rfl) (by kernel_rfl) (fun _ _ _ h => h) (.inl ⟨by rfl, fun w9 _ => by go_simp⟩) hH ?_
                simp only [List.setIfInBounds_toArray, List.set_cons_zero, List.set_cons_succ]
                refine wpAnyH_take_at (i := 27) 6 (.bool true) rfl rfl (by kernel_rfl) (by kernel_rfl) (by kernel_rfl) (fun _ _ _ h => h) (.inl ⟨by rfl, fun w9 _ => by go_simp⟩) hH ?_
                simp only [List.setIfInBounds_toArray, List.set_cons_zero, List.set_cons_succ]
                refine wpAnyH_done (by kernel_rfl) ?_ _
                refine NoPanic.normal ?_
                go_wp2
                go_ret
                exact Stop.out _ _ ⟨rfl, HK3.out.trans (J6.mono HK3.out.size (fun k hk _ => Nat.ne_of_lt (Nat.lt_of_lt_of_le hk HK3.out.size)))⟩
              · exact AllReadyH.nil
            · exact AllReadyH.nil
          · refine AllReadyH.cons rfl (fun K hK => ?_) AllReadyH.nil
            rw [if_pos (by rfl)]
            go_simp
            have JB := K6.alloc K6.size (.cells #[.string sk] 9)
            refine hK.out _ _ (HS.out _ JB) (fun hH => ?_)
            clear hK K
            refine wpAnyH_ready (rs := [18]) (by kernel_rfl) (by simp) ?_
            refine AllReadyH.cons rfl (fun K hK => ?_) ?_
            · rw [if_pos (by rfl)]
              go_simp
              go_wp2_with (go_at_call 14; refine (HM.out _).mono ?_; rintro e x5 ⟨rfl, j5⟩)
              have J5 : Kept w3.heap.size w3.heap.size w3 x5 := JB.trans (j5.mono (JB.size) (fun k hk _ => Nat.ne_of_lt (Nat.lt_of_lt_of_le hk JB.size)))
              refine hK.out _ _ (HS.out _ J5) (fun hH => ?_)
              clear hK K
              refine wpAnyH_ready (rs := [24]) (by kernel_rfl) (by simp) ?_
              refine AllReadyH.cons rfl (fun K hK => ?_) ?_
              · rw [if_pos (by rfl)]
                go_simp
                have hcell : (x5).cell? ⟨w6.heap.size, 0, none⟩ = some (.string sk) := (j5.cell (p := ⟨w6.heap.size, 0, none⟩) (by simp) (by simp)).trans (World.cell?_alloc_new w6 _ _ 0)
                go_wp2_with (go_at_call 10; refine (HC2.out (x5) (w6.heap.size) (by have := j5.size; simp at this; omega) hcell).mono ?_; rintro e x6 ⟨rfl, j6⟩)
                have J6 : Kept w3.heap.size w3.heap.size w3 x6 := J5.trans (j6.mono (J5.size) (fun k hk _ => Nat.ne_of_lt (Nat.lt_of_lt_of_le hk J5.size)))
                refine hK.out _ _ (HS.out _ J6) (fun hH => ?_)
                clear hK K
                refine wpAnyH_take_at (i := 25) 58 (.bool true) rfl rfl (by kernel_rfl) (by kernel_rfl) (by kernel_rfl) (fun _ _ _ h => h) (.inl ⟨by rfl, fun w9 _ => by go_simp⟩) hH ?_
                simp only [List.setIfInBounds_toArray, List.set_cons_zero, List.set_cons_succ]
                refine wpAnyH_take_at (i := 26) 59 (.bool true) rfl rfl (by kernel_rfl) (by kernel_rfl) (by kernel_rfl) (fun _ _ _ h => h) (.inl ⟨by rfl, fun w9 _ => by go_simp⟩) hH ?_
                simp only [List.setIfInBounds_toArray, List.set_cons_zero, List.set_cons_succ]
                refine wpAnyH_take_at (i := 27) 6 (.bool true) rfl rfl (by kernel_rfl) (by kernel_rfl) (by kernel_rfl) (fun _ _ _ h => h) (.inl ⟨by rfl, fun w9 _ => by go_simp⟩) hH ?_
                simp only [List.setIfInBounds_toArray, List.set_cons_zero, List.set_cons_succ]
                refine wpAnyH_done (by kernel_rfl) ?_ _
                refine NoPanic.normal ?_
                go_wp2
                go_ret
                exact Stop.out _ _ ⟨rfl, HK3.out.trans (J6.mono HK3.out.size (fun k hk _ => Nat.ne_of_lt (Nat.lt_of_lt_of_le hk HK3.out.size)))⟩
              · exact AllReadyH.nil
            · exact AllReadyH.nil
        · exact AllReadyH.nil
      · exact AllReadyH.nil
    · refine AllReadyH.cons rfl (fun K hK => ?_) AllReadyH.nil
      rw [if_pos (by rfl)]
      go_simp
      have KB : Kept w3.heap.size w3.heap.size w3 (w3.alloc (.cells #[.string s4, .string s] 9)).drew := ((Kept.refl _ _ _).alloc (Nat.le_refl _) _).drew
      refine hK.out _ _ (HS.out _ KB) (fun hH => ?_)
      clear hK K
      refine wpAnyH_ready (rs := [7]) (by kernel_rfl) (by simp) ?_
      refine AllReadyH.cons rfl (fun K hK => ?_) ?_
      · rw [if_pos (by rfl)]
        go_simp
        go_wp2_with (go_at_call 12; refine (HD.out _).mono ?_; rintro e w5 ⟨rfl, k5⟩)
        have K5 : Kept w3.heap.size w3.heap.size w3 w5 := KB.trans (k5.mono (KB.size) (fun k hk _ => Nat.ne_of_lt (Nat.lt_of_lt_of_le hk KB.size)))
        refine hK.out _ _ (HS.out _ K5) (fun hH => ?_)
        clear hK K
        have hs1 : ((w3.alloc (.cells #[.string s4, .string s] 9)).drew).heap.size = w3.heap.size + 1 := by show (w3.alloc (.cells #[.string s4, .string s] 9)).heap.size = _; simp
        refine wpAnyH_ready (rs := [13]) (by kernel_rfl) (by simp) ?_
        refine AllReadyH.cons rfl (fun K hK => ?_) ?_
        · rw [if_pos (by rfl)]
          go_simp
          have hc0 : (w5).cell? ⟨w3.heap.size, 0, none⟩ = some (.string s4) := (k5.cell (p := ⟨w3.heap.size, 0, none⟩) (by rw [hs1]; exact Nat.lt_succ_self _) (by rw [hs1]; exact Nat.ne_of_lt (Nat.lt_succ_self _))).trans (World.cell?_alloc_new w3 _ _ 0)
          have hc1 : (w5).cell? ⟨w3.heap.size, 1, none⟩ = some (.string s) := (k5.cell (p := ⟨w3.heap.size, 1, none⟩) (by rw [hs1]; exact Nat.lt_succ_self _) (by rw [hs1]; exact Nat.ne_of_lt (Nat.lt_succ_self _))).trans (World.cell?_alloc_new w3 _ _ 1)
          go_wp2_with (go_at_call 10; refine (HC.out (w5) (w3.heap.size) (by have := k5.size; rw [hs1] at this; exact this) hc0 hc1).mono ?_; rintro e w6 ⟨rfl, k6⟩)
          have K6 : Kept w3.heap.size w3.heap.size w3 w6 := K5.trans (k6.mono (K5.size) (fun k hk _ => Nat.ne_of_lt (Nat.lt_of_lt_of_le hk K5.size)))
          refine hK.out _ _ (HS.out _ K6) (fun hH => ?_)
          clear hK K
          refine wpAnyH_take_at (i := 14) 47 (.bool true) rfl rfl (by kernel_rfl) (by kernel_rfl) (by kernel_rfl) (fun _ _ _ h => h) (.inl ⟨by rfl, fun w9 _ => by go_simp⟩) hH ?_
          simp only [List.setIfInBounds_toArray, List.set_cons_zero, List.set_cons_succ]
          refine wpAnyH_take_at (i := 15) 48 (.bool true) rfl rfl (by kernel_rfl) (by kernel_rfl) (by kernel_rfl) (fun _ _ _ h => h) (.inl ⟨by rfl, fun w9 _ => by go_simp⟩) hH ?_
          simp only [List.setIfInBounds_toArray, List.set_cons_zero, List.set_cons_succ]
          refine wpAnyH_take_at (i := 16) 49 (.agg ll.toArray) rfl rfl (by kernel_rfl) (by kernel_rfl) (by kernel_rfl) (fun _ _ _ h => h) (yieldsIf_load_mid (by rfl) 25 _ rfl wa 0 rfl ll _ (fun _ h => h.1) Try.underlying25 rfl HIA.out) hH ?_
          simp only [List.setIfInBounds_toArray, List.set_cons_zero, List.set_cons_succ]
          refine wpAnyH_take_at (i := 17) 50 (.agg ll.toArray) rfl rfl (by kernel_rfl) (by kernel_rfl) (by kernel_rfl) (fun _ _ _ h => h) (yieldsIf_load_mid (by rfl) 25 _ rfl wa 0 rfl ll _ (fun _ h => h.1) Try.underlying25 rfl HIA.out) hH ?_
          simp only [List.setIfInBounds_toArray, List.set_cons_zero, List.set_cons_succ]
          refine wpAnyH_take_at (i := 19) 52 ((.slice (some ⟨wa, 0, none⟩) 32 32)) rfl rfl (by kernel_rfl) (by kernel_rfl) (by kernel_rfl) (fun _ _ _ h => h) (.inl ⟨by rfl, fun w9 _ => by go_simp⟩) hH ?_
          simp only [List.setIfInBounds_toArray, List.set_cons_zero, List.set_cons_succ]
          refine wpAnyH_take_at (i := 20) 53 (.string sk) rfl rfl (by kernel_rfl) (by kernel_rfl) (by kernel_rfl) (fun _ _ _ h => h) (.inl ⟨by rfl, fun w9 h9 => by have h8 := h9.2; go_simp⟩) hH ?_
          simp only [List.setIfInBounds_toArray, List.set_cons_zero, List.set_cons_succ]
          refine wpAnyH_take_at (i := 21) 54 ((.slice (some ⟨wa, 0, none⟩) 32 32)) rfl rfl (by kernel_rfl) (by kernel_rfl) (by kernel_rfl) (fun _ _ _ h => h) (.inl ⟨by rfl, fun w9 _ => by go_simp⟩) hH ?_
          simp only [List.setIfInBounds_toArray, List.set_cons_zero, List.set_cons_succ]
          refine wpAnyH_take_at (i := 22) 55 (.string sk) rfl rfl (by kernel_rfl) (by kernel_rfl) (by kernel_rfl) (fun _ _ _ h => h) (.inl ⟨by rfl, fun w9 h9 => by have h8 := h9.2; go_simp⟩) hH ?_
          simp only [List.setIfInBounds_toArray, List.set_cons_zero, List.set_cons_succ]
          refine wpAnyH_ready (rs := [18, 23]) (by kernel_rfl) (by simp) ?_
          refine AllReadyH.cons rfl (fun K hK => ?_) ?_
          · rw [if_pos (by rfl)]
            go_simp
            go_wp2_with (go_at_call 14; refine (HM.out _).mono ?_; rintro e x5 ⟨rfl, j5⟩)
            have J5 : Kept w3.heap.size w3.heap.size w3 x5 := K6.trans (j5.mono (K6.size) (fun k hk _ => Nat.ne_of_lt (Nat.lt_of_lt_of_le hk K6.size)))
            refine hK.out _ _ (HS.out _ J5) (fun hH => ?_)
            clear hK K
            refine wpAnyH_ready (rs := [23]) (by kernel_rfl) (by simp) ?_
            refine AllReadyH.cons rfl (fun K hK => ?_) ?_
            · rw [if_pos (by rfl)]
              go_simp
              have JB := J5.alloc J5.size (.cells #[.string sk] 9)
              refine hK.out _ _ (HS.out _ JB) (fun hH => ?_)
              clear hK K
              refine wpAnyH_ready (rs := [24]) (by kernel_rfl) (by simp) ?_
              refine AllReadyH.cons rfl (fun K hK => ?_) ?_
              · rw [if_pos (by rfl)]
                go_simp
                have hcell : (x5.alloc (.cells #[.string sk] 9)).cell? ⟨x5.heap.size, 0, none⟩ = some (.string sk) := World.cell?_alloc_new x5 _ _ 0
                go_wp2_with (go_at_call 10; refine (HC2.out (x5.alloc (.cells #[.string sk] 9)) (x5.heap.size) (by simp) hcell).mono ?_; rintro e x6 ⟨rfl, j6⟩)
                have J6 : Kept w3.heap.size w3.heap.size w3 x6 := JB.trans (j6.mono (JB.size) (fun k hk _ => Nat.ne_of_lt (Nat.lt_of_lt_of_le hk JB.size)))
                refine hK.out _ _ (HS.out _ J6) (fun hH => ?_)
                clear hK K
                refine wpAnyH_take_at (i := 25) 58 (.bool true) rfl rfl (by kernel_rfl) (by kernel_rfl) (by kernel_rfl) (fun _ _ _ h => h) (.inl ⟨by rfl, fun w9 _ => by go_simp⟩) hH ?_
                simp only [List.setIfInBounds_toArray, List.set_cons_zero, List.set_cons_succ]
                refine wpAnyH_take_at (i := 26) 59 (.bool true) rfl rfl (by kernel_rfl) (by kernel_rfl) (by kernel_rfl) (fun _ _ _ h => h) (.inl ⟨by rfl, fun w9 _ => by go_simp⟩) hH ?_
                simp only [List.setIfInBounds_toArray, List.set_cons_zero, List.set_cons_succ]
                refine wpAnyH_take_at (i := 27) 6 (.bool true) rfl rfl (by kernel_rfl) (by kernel_rfl) (by kernel_rfl) (fun _ _ _ h => h) (.inl ⟨by rfl, fun w9 _ => by go_simp⟩) hH ?_
                simp only [List.setIfInBounds_toArray, List.set_cons_zero, List.set_cons_succ]
                refine wpAnyH_done (by kernel_rfl) ?_ _
                refine NoPanic.normal ?_
                go_wp2
                go_ret
                exact Stop.out _ _ ⟨rfl, HK3.out.trans (J6.mono HK3.out.size (fun k hk _ => Nat.ne_of_lt (Nat.lt_of_lt_of_le hk HK3.out.size)))⟩
              · exact AllReadyH.nil
            · exact AllReadyH.nil
          · refine AllReadyH.cons rfl (fun K hK => ?_) AllReadyH.nil
            rw [if_pos (by rfl)]
            go_simp
            have JB := K6.alloc K6.size (.cells #[.string sk] 9)
            refine hK.out _ _ (HS.out _ JB) (fun hH => ?_)
            clear hK K
            refine wpAnyH_ready (rs := [18]) (by kernel_rfl) (by simp) ?_
            refine AllReadyH.cons rfl (fun K hK => ?_) ?_
            · rw [if_pos (by rfl)]
              go_simp
              go_wp2_with (go_at_call 14; refine (HM.out _).mono ?_; rintro e x5 ⟨rfl, j5⟩)
              have J5 : Kept w3.heap.size w3.heap.size w3 x5 := JB.trans (j5.mono (JB.size) (fun k hk _ => Nat.ne_of_lt (Nat.lt_of_lt_of_le hk JB.size)))
              refine hK.out _ _ (HS.out _ J5) (fun hH => ?_)
              clear hK K
              refine wpAnyH_ready (rs := [24]) (by kernel_rfl) (by simp) ?_
              refine AllReadyH.cons rfl (fun K hK => ?_) ?_
              · rw [if_pos (by rfl)]
                go_simp
                have hcell : (x5).cell? ⟨w6.heap.size, 0, none⟩ = some (.string sk) := (j5.cell (p := ⟨w6.heap.size, 0, none⟩) (by simp) (by simp)).trans (World.cell?_alloc_new w6 _ _ 0)
                go_wp2_with (go_at_call 10; refine (HC2.out (x5) (w6.heap.size) (by have := j5.size; simp at this; omega) hcell).mono ?_; rintro e x6 ⟨rfl, j6⟩)
                have J6 : Kept w3.heap.size w3.heap.size w3 x6 := J5.trans (j6.mono (J5.size) (fun k hk _ => Nat.ne_of_lt (Nat.lt_of_lt_of_le hk J5.size)))
                refine hK.out _ _ (HS.out _ J6) (fun hH => ?_)
                clear hK K
                refine wpAnyH_take_at (i := 25) 58 (.bool true) rfl rfl (by kernel_rfl) (by kernel_rfl) (by kernel_rfl) (fun _ _ _ h => h) (.inl ⟨by rfl, fun w9 _ => by go_simp⟩) hH ?_
                simp only [List.setIfInBounds_toArray, List.set_cons_zero, List.set_cons_succ]
                refine wpAnyH_take_at (i := 26) 59 (.bool true) rfl rfl (by kernel_rfl) (by kernel_rfl) (by kernel_rfl) (fun _ _ _ h => h) (.inl ⟨by rfl, fun w9 _ => by go_simp⟩) hH ?_
                simp only [List.setIfInBounds_toArray, List.set_cons_zero, List.set_cons_succ]
                refine wpAnyH_take_at (i := 27) 6 (.bool true) rfl rfl (by kernel_rfl) (by kernel_rfl) (by kernel_rfl) (fun _ _ _ h => h) (.inl ⟨by rfl, fun w9 _ => by go_simp⟩) hH ?_
                simp only [List.setIfInBounds_toArray, List.set_cons_zero, List.set_cons_succ]
                refine wpAnyH_done (by kernel_rfl) ?_ _
                refine NoPanic.normal ?_
                go_wp2
                go_ret
                exact Stop.out _ _ ⟨rfl, HK3.out.trans (J6.mono HK3.out.size (fun k hk _ => Nat.ne_of_lt (Nat.lt_of_lt_of_le hk HK3.out.size)))⟩
              · exact AllReadyH.nil
            · exact AllReadyH.nil
        · exact AllReadyH.nil
      · exact AllReadyH.nil


end Go.Proofs.Ytdhebdahfnilkaa
