/-
  The statement PprStays: its walk.
-/
import Derived.Test.YtcoljiopnfgjaaaGS

namespace Go.Proofs.Ytcoljiopnfgjaaa
open Go.RowKit Go.Lib

theorem look_key (bits : Nat) (hb : bits ≤ 32) (L : List Sd) (rb : Nat) (sl : Value) (p : Nat) (hp : p < 2 ^ bits) (k : List UInt8) (hk : Pp.KeyAt bits L p k) (w : World) (hR : RowIs w rb bits sl L) (hG : Pp.Good bits L) (hn : L.length < 1000000) :
    Calls Try.prog 30 #[.pointer (some ⟨rb, 0, none⟩), .pointer none, .int .i64 (p : Int)] w fun e w' => e = .returned (.tuple #[.agg (bcells k).toArray, .int .i64 0]) ∧ Kept w.heap.size w.heap.size w w' := by
  refine (row_look bits hb L rb sl p w hR hG hn).mono ?_
  rintro e w' ⟨L', m, er, rfl, ht, kk⟩
  obtain ⟨s, hs, hh, rfl⟩ := hk
  cases ht with
  | out h => omega
  | gone q h1 h2 h3 =>
    obtain rfl : p = q := by omega
    exact absurd hh (h3 s hs)
  | took A B t q h1 h2 h3 h4 =>
    obtain rfl : p = q := by omega
    refine ⟨?_, kk⟩
    rw [Pp.KeyAt.one hG ⟨t, by rw [h3]; simp, h4, rfl⟩ ⟨s, hs, hh, rfl⟩]
theorem look_gone (bits : Nat) (hb : bits ≤ 32) (L : List Sd) (rb : Nat) (sl : Value) (p : Nat) (hp : p < 2 ^ bits) (hk : ∀ s ∈ L, ¬ Pp.Has bits s p) (w : World) (hR : RowIs w rb bits sl L) (hG : Pp.Good bits L) (hn : L.length < 1000000) :
    Calls Try.prog 30 #[.pointer (some ⟨rb, 0, none⟩), .pointer none, .int .i64 (p : Int)] w fun e w' => e = .returned (.tuple #[.agg zeros32, .int .i64 10]) ∧ Kept w.heap.size w.heap.size w w' := by
  refine (row_look bits hb L rb sl p w hR hG hn).mono ?_
  rintro e w' ⟨L', m, er, rfl, ht, kk⟩
  cases ht with
  | out h => omega
  | gone q h1 h2 h3 => exact ⟨by rw [zeros_bcells], kk⟩
  | took A B t q h1 h2 h3 h4 =>
    obtain rfl : p = q := by omega
    exact absurd h4 (hk t (by rw [h3]; simp))
theorem gone_key (bits : Nat) (hb : bits ≤ 32) (L : List Sd) (rb : Nat) (sl : Value) (p : Nat) (hp : p < 2 ^ bits) (k : List UInt8) (hk : Pp.KeyAt bits L p k) (w : World) (hR : RowIs w rb bits sl L) (hG : Pp.Good bits L) (hn : L.length < 1000000) :
    Calls Try.prog 34 #[.pointer (some ⟨rb, 0, none⟩), .int .i64 (p : Int)] w fun e w' => e = .returned (.bool false) ∧ Kept w.heap.size w.heap.size w w' := by
  refine (row_gone bits hb L rb sl p w hR hG hn).mono ?_
  rintro e w' ⟨L', m, er, rfl, ht, kk⟩
  obtain ⟨s, hs, hh, rfl⟩ := hk
  cases ht with
  | out h => omega
  | gone q h1 h2 h3 =>
    obtain rfl : p = q := by omega
    exact absurd hh (h3 s hs)
  | took A B t q h1 h2 h3 h4 => exact ⟨rfl, kk⟩
theorem gone_gone (bits : Nat) (hb : bits ≤ 32) (L : List Sd) (rb : Nat) (sl : Value) (p : Nat) (hp : p < 2 ^ bits) (hk : ∀ s ∈ L, ¬ Pp.Has bits s p) (w : World) (hR : RowIs w rb bits sl L) (hG : Pp.Good bits L) (hn : L.length < 1000000) :
    Calls Try.prog 34 #[.pointer (some ⟨rb, 0, none⟩), .int .i64 (p : Int)] w fun e w' => e = .returned (.bool true) ∧ Kept w.heap.size w.heap.size w w' := by
  refine (row_gone bits hb L rb sl p w hR hG hn).mono ?_
  rintro e w' ⟨L', m, er, rfl, ht, kk⟩
  cases ht with
  | out h => omega
  | gone q h1 h2 h3 => exact ⟨rfl, kk⟩
  | took A B t q h1 h2 h3 h4 =>
    obtain rfl : p = q := by omega
    exact absurd h4 (hk t (by rw [h3]; simp))
theorem root_good (n : Nat) (l : List UInt8) (hl : l.length = 32) : Pp.Good n [⟨0, 0, l⟩] := ⟨fun s hs => by rw [List.mem_singleton.1 hs]; exact ⟨Nat.zero_le _, by show (0 : Nat) < 2 ^ 0; decide, hl⟩, List.pairwise_singleton _ _⟩
theorem root_key (n p : Nat) (hp : p < 2 ^ n) (l : List UInt8) : Pp.KeyAt n [⟨0, 0, l⟩] p (Pp.key (Pp.leaf n p n ⟨0, 0, l⟩).self) :=
  ⟨_, List.mem_singleton.2 rfl, ⟨by simp [Pp.start], by simpa [Pp.stop] using hp⟩, rfl⟩
theorem Kept.row {w w1 w2 : World} {rb : Nat} (h : Kept w.heap.size w.heap.size w w1) (k : Kept w1.heap.size rb w1 w2) (hrb : w.heap.size ≤ rb) : Kept w.heap.size w.heap.size w w2 :=
  h.trans (k.mono h.size (fun _ hi _ => by omega))
theorem Kept.then {w w1 w2 : World} (h : Kept w.heap.size w.heap.size w w1) (k : Kept w1.heap.size w1.heap.size w1 w2) : Kept w.heap.size w.heap.size w w2 :=
  h.trans (k.mono h.size (fun _ hi _ => Nat.ne_of_lt (Nat.lt_of_lt_of_le hi h.size)))
theorem keyD_size {s : List UInt8} (h : s.length = 32) : (bcells s).toArray.size = 32 := by rw [List.size_toArray, bcells_length, h]

theorem u64_wrap (x : Int) : IntKind.u64.wrap x = x % 18446744073709551616 := by
  simp [IntKind.wrap, IntKind.signed, IntKind.bits]
theorem u64_power (b : Int) (_hb0 : 0 ≤ b) : ¬ IntKind.u64.wrap (2 ^ (1 + b % 32).toNat) = 0 := by
  rw [u64_wrap]
  obtain ⟨n, hn⟩ : ∃ n : Nat, 1 + b % 32 = (n : Int) := ⟨(1 + b % 32).toNat, by omega⟩
  have h32 : n ≤ 32 := by omega
  rw [hn, Int.toNat_natCast]
  have h1 := Nat.pow_le_pow_right (n := 2) (by decide) h32
  have h2 := Nat.two_pow_pos n
  have e : ((2 : Int) ^ n) = ((2 ^ n : Nat) : Int) := by simp
  rw [e]
  omega

set_option maxRecDepth 100000 in
set_option maxHeartbeats 12800000 in
theorem pprstays_walk (l : List UInt8) (hl : l.length = 32) (b : Int) (hb0 : 0 ≤ b) (v : Value) (L : List Int) (ask : Int) (w : World) (hL : Nums w v L) :
    Calls Try.prog 5 #[.agg (bcells l).toArray, .int .u8 b, v, .int .i64 ask] w fun e w' => e = .returned (.bool true) ∧ Kept w.heap.size w.heap.size w w' := by
  obtain ⟨ad, c, g, o, rfl, hc⟩ := hL
  have hnew := fun n h1 h2 w => new_calls l hl n h1 h2 w
  obtain ⟨LD, hLD⟩ : ∃ LD, LD = (bcells l).toArray := ⟨_, rfl⟩
  have HLI := Lib.hid (show (Try.prog.info? 26).map (·.size) = some LD.size by rw [hLD]; exact keyInfo hl)
  simp only [← hLD] at hnew
  rw [← hLD]
  have HNEW := Lib.hid hnew
  have HC := Lib.hid hc
  have HLL := Lib.hid hl
  clear hLD hc hl hnew
  obtain ⟨ln, hln⟩ : ∃ ln, ln = L.length := ⟨_, rfl⟩
  rw [← hln]
  have HLN := Lib.hid hln
  clear hln
  have hk1 : Kept w.heap.size w.heap.size w (w.alloc (.cells LD 26)) := (Kept.refl _ _ _).alloc (Nat.le_refl _) _
  have hr1 := heap_new w (.cells LD 26)
  have K1 := Lib.hid hk1
  have R1 := Lib.hid hr1
  clear hk1 hr1
  go_enter Try.func5, Try.ntmps5
  go_upto_region 1 with fail
  generalize w.alloc (.cells LD 26) = w1 at K1 R1 ⊢
  obtain ⟨wa, hwa⟩ : ∃ wa, wa = w.heap.size := ⟨_, rfl⟩
  rw [← hwa] at R1 ⊢
  have HWA := Lib.hid hwa
  clear hwa
  by_cases hlen : ln ≤ 24
  · have hlen' : (ln : Int) ≤ 24 := by omega
    have hnz := u64_power b hb0
    go_upto_region 5 with (go_at_call 25; refine (ppr_awake _).mono ?_; rintro e w2 ⟨rfl, k2⟩; have K2 := Lib.hid (K1.out.then k2); have R2 := Lib.hid ((k2.block wa (lt_of_block R1.out) (Nat.ne_of_lt (lt_of_block R1.out))).trans R1.out); clear k2)
    obtain ⟨n, hn⟩ : ∃ n : Nat, 1 + b % 32 = (n : Int) := ⟨(1 + b % 32).toNat, by omega⟩
    have hn1 : 1 ≤ n := by omega
    have hn32 : n ≤ 32 := by omega
    rw [hn] at hnz ⊢
    obtain ⟨pl, hpl, hp2⟩ : ∃ pl : Nat, wrap64 ((IntKind.u64.wrap ask).tmod (IntKind.u64.wrap (2 ^ (n : Int).toNat))) = (pl : Int) ∧ pl < 2 ^ n := by
      have h1 := Nat.pow_le_pow_right (n := 2) (by decide) hn32
      have h2 := Nat.two_pow_pos n
      have e : ((2 : Int) ^ n) = ((2 ^ n : Nat) : Int) := by simp
      rw [Int.toNat_natCast, e, u64_wrap, u64_wrap]
      obtain ⟨a, ha⟩ : ∃ a : Nat, ask % 18446744073709551616 = (a : Int) := ⟨(ask % 18446744073709551616).toNat, by omega⟩
      rw [ha, show ((2 ^ n : Nat) : Int) % 18446744073709551616 = ((2 ^ n : Nat) : Int) by omega]
      have h3 := Nat.mod_lt a h2
      refine ⟨a % 2 ^ n, ?_, h3⟩
      rw [show (a : Int).tmod ((2 ^ n : Nat) : Int) = ((a % 2 ^ n : Nat) : Int) from rfl]
      unfold wrap64
      omega
    rw [hpl]
    have HP2 := Lib.hid hp2
    have HN32 := Lib.hid hn32
    have HGR := Lib.hid (root_good n l HLL.out)
    have HKR := Lib.hid (root_key n pl hp2 l)
    obtain ⟨k0, hk0⟩ : ∃ k0, k0 = Pp.key (Pp.leaf n pl n ⟨0, 0, l⟩).self := ⟨_, rfl⟩
    rw [← hk0] at HKR
    have hk32 : k0.length = 32 := by rw [hk0]; exact sum_length _
    obtain ⟨KD, hKD⟩ : ∃ KD, KD = (bcells k0).toArray := ⟨_, rfl⟩
    have heq : ∀ w, (Op.equalIn 10000 26 (.agg KD) (.agg KD)).run Try.prog w = .ok true w := fun w => by
      rw [hKD]
      have := hash_equalIn w k0 k0 hk32 hk32
      rwa [beq_self_eq_true] at this
    have gd := macGuard25
    have HKS := Lib.hid (show KD.size = 32 by rw [hKD]; exact keyD_size hk32)
    have HKA := Lib.hid (show KD.all (·.oneCell') = true by rw [hKD]; exact bcells_all _)
    have HKI := Lib.hid (show (Try.prog.info? 26).map (·.size) = some KD.size by rw [hKD]; exact keyInfo hk32)
    have hlook := fun rb sl L w (h : RowIs w rb n sl L) (hG : Pp.Good n L) (hn : L.length < 1000000) (hk : Pp.KeyAt n L pl k0) => look_key n HN32.out L rb sl pl HP2.out k0 hk w h hG hn
    simp only [← hKD] at hlook
    have HLOOK := Lib.hid hlook
    have HZI := Lib.hid (show (Try.prog.info? 26).map (·.size) = some zeros32.size by rw [zeros32_size]; kernel_rfl)
    have HNZ := Lib.hid hnz
    clear hn hpl hp2 hn32 hk0 hk32 hKD hlook hnz hb0
    refine wp_region_lit ?_
    refine wpList_load_row rfl 26 (.tmp 4) rfl (wa) rfl 26 LD (0, 0) _ (R2.out) Try.underlying26 rfl (HLI.out) ?_
    simp only [Act.put, List.setIfInBounds_toArray, List.set_cons_zero, List.set_cons_succ]
    refine @BigFrame.wpList_want _ _ _ _ _ _ _ ?hy1 ?_
    case hy1 => kernel_rfl
    intro K hK
    go_simp
    refine hK _ _ ?_
    clear hK K
    refine @BigFrame.wpList_want _ _ _ _ _ _ _ ?hy2 ?_
    case hy2 => kernel_rfl
    intro K hK
    go_simp
    go_at_call 26
    refine (HNEW.out n hn1 HN32.out _).mono ?_
    rintro e w3 ⟨rb, sl, rfl, hrb, hr3, k3⟩
    refine hK _ _ ?_
    clear hK K
    have K3 := Lib.hid (K2.out.then k3)
    have HRB := Lib.hid (show w.heap.size ≤ rb by have := K2.out.size; omega)
    have HR3 := Lib.hid hr3
    clear hrb hr3 k3 R2
    refine @BigFrame.wpList_want _ _ _ _ _ _ _ ?hy3 ?_
    case hy3 => kernel_rfl
    intro K hK
    go_simp
    refine hK _ _ ?_
    clear hK K
    refine @BigFrame.wpList_want _ _ _ _ _ _ _ ?hy4 ?_
    case hy4 => kernel_rfl
    intro K hK
    go_simp
    refine hK _ _ ?_
    clear hK K
    refine @BigFrame.wpList_want _ _ _ _ _ _ _ ?hy5 ?_
    case hy5 => kernel_rfl
    intro K hK
    go_simp
    refine hK _ _ ?_
    clear hK K
    refine @BigFrame.wpList_want _ _ _ _ _ _ _ ?hy6 ?_
    case hy6 => kernel_rfl
    intro K hK
    go_simp
    refine hK _ _ ?_
    clear hK K
    refine @BigFrame.wpList_want _ _ _ _ _ _ _ ?hy7 ?_
    case hy7 => kernel_rfl
    intro K hK
    go_simp
    refine hK _ _ ?_
    clear hK K
    go_upto_region 6 with fail
    refine wp_region_lit ?_
    refine @BigFrame.wpList_want _ _ _ _ _ _ _ ?hy8 ?_
    case hy8 => kernel_rfl
    intro K hK
    go_simp
    refine hK _ _ ?_
    clear hK K
    refine @BigFrame.wpList_want _ _ _ _ _ _ _ ?hy9 ?_
    case hy9 => kernel_rfl
    intro K hK
    go_simp
    refine hK _ _ ?_
    clear hK K
    refine @BigFrame.wpList_want _ _ _ _ _ _ _ ?hy10 ?_
    case hy10 => kernel_rfl
    intro K hK
    go_simp
    go_at_call 30
    refine (HLOOK.out rb sl _ w3 HR3.out HGR.out (by simp) HKR.out).mono ?_
    rintro e w4 ⟨rfl, k4⟩
    refine hK _ _ ?_
    clear hK K
    have K4 := Lib.hid (K3.out.then k4)
    have HR4 := Lib.hid (HR3.out.kept k4)
    clear k4
    refine @BigFrame.wpList_want _ _ _ _ _ _ _ ?hy11 ?_
    case hy11 => kernel_rfl
    intro K hK
    go_simp
    refine hK _ _ ?_
    clear hK K
    refine @BigFrame.wpList_want _ _ _ _ _ _ _ ?hy12 ?_
    case hy12 => kernel_rfl
    intro K hK
    go_simp
    refine hK _ _ ?_
    clear hK K
    refine @BigFrame.wpList_want _ _ _ _ _ _ _ ?hy13 ?_
    case hy13 => kernel_rfl
    intro K hK
    go_simp
    refine hK _ _ ?_
    clear hK K
    refine wpList_alloc_k rfl 26 rfl (alloc_hash _) ?_
    simp only [Act.put, List.setIfInBounds_toArray, List.set_cons_zero, List.set_cons_succ]
    refine wpList_store_row rfl 26 _ _ rfl (w4.heap.size) KD rfl rfl 26 zeros32 (heap_new _ _) (HKI.out) (by rw [zeros32_size, HKS.out]) (HKA.out) ?_
    simp only [Act.put]
    rw [World.setRow_alloc_new]
    have hk5 : Kept w4.heap.size w4.heap.size w4 (w4.alloc (.cells KD 26)) := (Kept.refl _ _ _).alloc (Nat.le_refl _) _
    have hb5 := heap_new w4 (.cells KD 26)
    generalize w4.alloc (.cells KD 26) = w5 at hk5 hb5 ⊢
    have HRK := Lib.hid (show rb < w4.heap.size from lt_of_block HR4.out.1)
    obtain ⟨kb, hkb⟩ : ∃ kb, kb = w4.heap.size := ⟨_, rfl⟩
    rw [← hkb] at hb5 HRK ⊢
    have K5 := Lib.hid (K4.out.then hk5)
    have HR5 := Lib.hid (HR4.out.kept hk5)
    have HB5 := Lib.hid hb5
    clear hk5 hb5 hkb
    refine @BigFrame.wpList_want _ _ _ _ _ _ _ ?hy14 ?_
    case hy14 => kernel_rfl
    intro K hK
    go_simp
    refine hK _ _ ?_
    clear hK K
    go_upto_region 9 with fail
    refine wp_region_lit ?_
    refine @BigFrame.wpList_want _ _ _ _ _ _ _ ?hy15 ?_
    case hy15 => kernel_rfl
    intro K hK
    go_simp
    refine hK _ _ ?_
    clear hK K
    refine @BigFrame.wpList_want _ _ _ _ _ _ _ ?hy16 ?_
    case hy16 => kernel_rfl
    intro K hK
    go_simp
    go_at_call 32
    refine (row_copy n _ rb sl w5 HR5.out).mono ?_
    rintro e w6 ⟨r2, rfl, hr2, hc6, k6⟩
    refine hK _ _ ?_
    clear hK K
    have K6 := Lib.hid (K5.out.then k6)
    have HR6 := Lib.hid (HR5.out.kept k6)
    have HC6 := Lib.hid hc6
    have HB6 := Lib.hid ((k6.block _ (lt_of_block HB5.out) (Nat.ne_of_lt (lt_of_block HB5.out))).trans HB5.out)
    have HR2 := Lib.hid (show r2 ≠ rb by have := lt_of_block HR5.out.1; omega)
    clear k6 hc6 hr2
    refine @BigFrame.wpList_want _ _ _ _ _ _ _ ?hy17 ?_
    case hy17 => kernel_rfl
    intro K hK
    go_simp
    refine hK _ _ ?_
    clear hK K
    go_wp2_with fail
    go_loopw [16, 17] (fun s16 s17 wr => ∃ (i : Nat) (G : Bool) (M : List Sd) (sl' : Value), Hid (i ≤ ln) ∧ s16 = .bool G ∧ s17 = .int .i64 (i : Int) ∧ Hid (RowIs wr rb n sl' M) ∧ Hid (RowIs wr r2 n sl [⟨0, 0, l⟩]) ∧ Hid (Pp.Good n M) ∧ Hid (M.length ≤ 1 + 32 * i) ∧ Hid (G = true → ∀ s ∈ M, ¬ Pp.Has n s pl) ∧ Hid (G = false → Pp.KeyAt n M pl k0) ∧ Hid (wr.heap[kb]? = some (.cells KD 26 (0, 0))) ∧ Hid (Kept w.heap.size w.heap.size w wr)) (fun _ s17 _ => ln - (RowKit.intOf s17).toNat)
    case atStart => exact ⟨0, false, _, sl, Lib.hid (Nat.zero_le _), rfl, rfl, HR6, HC6, HGR, Lib.hid (Nat.le_refl _), Lib.hid (fun h => by cases h), Lib.hid (fun _ => HKR.out), HB6, K6⟩
    case round =>
      clear HR6 HC6 HB6 K6 HR5 HB5 K5 HR4 K4 HR3 K3 K2 K1 R1
      obtain ⟨i, G, M, sl', hi, rfl, rfl, HR, HCP, HGM, HML, HGT, HGF, HKB, HK⟩ := hrel
      have HM6 := Lib.hid (show M.length < 1000000 by have := HML.out; have := hi.out; omega)
      by_cases hlt : i < ln
      · obtain ⟨had, hg, hx⟩ := HC.out i (by rw [← HLN.out]; exact hlt)
        subst had
        have hlti : (i : Int) < (ln : Int) := by omega
        have hi0 : ¬ (i : Int) < 0 := by omega
        have cx : wr.cell? ⟨g, o + i, none⟩ = some (.int .i64 (L[i]'(by rw [← HLN.out]; exact hlt))) := (HK.out.cell (p := ⟨g, o + i, none⟩) hg (Nat.ne_of_lt hg)).trans hx
        have HX := Lib.hid hx
        have HG := Lib.hid hg
        generalize (L[i]'(by rw [← HLN.out]; exact hlt)) = x at cx HX
        have HLT := Lib.hid hlt
        clear hx hg hlt hi
        have HTAKE := Lib.hid (row_take n HN32.out M rb sl' x wr HR.out HGM.out HM6.out)
        go_upto_region 15 with (go_at_call 31; refine HTAKE.out.mono ?_; rintro e w7 ⟨M', k7', er, rfl, ht, sl7, hr7, k7⟩)
        have HT := Lib.hid ht
        have HR7 := Lib.hid hr7
        have HK7 := Lib.hid (HK.out.row k7 HRB.out)
        have HCP7 := Lib.hid (HCP.out.keptBut (fun s hs => (HGR.out.1 s hs).2.2) HR.out HR2.out k7)
        have HKB7 := Lib.hid ((k7.block kb (lt_of_block HKB.out) (by have := HRK.out; omega)).trans HKB.out)
        have c7 : w7.cell? ⟨g, o + i, none⟩ = some (.int .i64 x) := (HK7.out.cell (p := ⟨g, o + i, none⟩) HG.out (Nat.ne_of_lt HG.out)).trans HX.out
        clear ht hr7 k7 cx
        have HG7 := Lib.hid (HT.out.good HGM.out)
        cases G
        · go_wp2_with fail
          go_roundw
          case rel =>
            refine ⟨i + 1, _, M', sl7, Lib.hid HLT.out, rfl, by simp, HR7, HCP7, Lib.hid HG7.out.1, Lib.hid (by have := HG7.out.2; have := HML.out; have := HN32.out; omega), Lib.hid (fun h => ?_), Lib.hid (fun h => ?_), HKB7, HK7⟩
            · have e : x = (pl : Int) := by simpa using h
              have := HT.out
              rw [e] at this
              exact this.mine HGM.out HP2.out
            · have e : x ≠ (pl : Int) := by simpa using h
              exact (HT.out.others HGM.out e).2 _ (HGF.out rfl)
          case measure => have := HLT.out; simp [RowKit.intOf]; omega
        · go_wp2_with fail
          go_roundw
          case rel =>
            refine ⟨i + 1, true, M', sl7, Lib.hid HLT.out, rfl, by simp, HR7, HCP7, Lib.hid HG7.out.1, Lib.hid (by have := HG7.out.2; have := HML.out; have := HN32.out; omega), Lib.hid (fun h => ?_), Lib.hid (fun h => by cases h), HKB7, HK7⟩
            by_cases e : x = (pl : Int)
            · have := HT.out
              rw [e] at this
              exact this.mine HGM.out HP2.out
            · exact (HT.out.others HGM.out e).1 (HGT.out rfl)
          case measure => have := HLT.out; simp [RowKit.intOf]; omega
      · have hlti : ¬ (i : Int) < (ln : Int) := by omega
        clear hlt
        cases G
        · go_upto_region 16 with fail
          refine wp_region_lit ?_
          refine @BigFrame.wpList_want _ _ _ _ _ _ _ ?hy18 ?_
          case hy18 => kernel_rfl
          intro K hK
          go_simp
          refine hK _ _ ?_
          clear hK K
          refine @BigFrame.wpList_want _ _ _ _ _ _ _ ?hy19 ?_
          case hy19 => kernel_rfl
          intro K hK
          go_simp
          refine hK _ _ ?_
          clear hK K
          refine @BigFrame.wpList_want _ _ _ _ _ _ _ ?hy20 ?_
          case hy20 => kernel_rfl
          intro K hK
          go_simp
          go_at_call 30
          refine (HLOOK.out rb sl' M wr HR.out HGM.out HM6.out (HGF.out rfl)).mono ?_
          rintro e w4 ⟨rfl, k4⟩
          refine hK _ _ ?_
          clear hK K
          have K4 := Lib.hid (HK.out.then k4)
          have HR4 := Lib.hid (HR.out.kept k4)
          have HC4 := Lib.hid (HCP.out.kept k4)
          have HB4 := Lib.hid ((k4.block _ (lt_of_block HKB.out) (Nat.ne_of_lt (lt_of_block HKB.out))).trans HKB.out)
          clear k4
          refine @BigFrame.wpList_want _ _ _ _ _ _ _ ?hy21 ?_
          case hy21 => kernel_rfl
          intro K hK
          go_simp
          refine hK _ _ ?_
          clear hK K
          refine @BigFrame.wpList_want _ _ _ _ _ _ _ ?hy22 ?_
          case hy22 => kernel_rfl
          intro K hK
          go_simp
          refine hK _ _ ?_
          clear hK K
          refine @BigFrame.wpList_want _ _ _ _ _ _ _ ?hy23 ?_
          case hy23 => kernel_rfl
          intro K hK
          go_simp
          refine hK _ _ ?_
          clear hK K
          refine wpList_alloc_k rfl 26 rfl (alloc_hash _) ?_
          simp only [Act.put, List.setIfInBounds_toArray, List.set_cons_zero, List.set_cons_succ]
          refine wpList_store_row rfl 26 _ _ rfl (w4.heap.size) KD rfl rfl 26 zeros32 (heap_new _ _) (HKI.out) (by rw [zeros32_size, HKS.out]) (HKA.out) ?_
          simp only [Act.put]
          rw [World.setRow_alloc_new]
          have hk5 : Kept w4.heap.size w4.heap.size w4 (w4.alloc (.cells KD 26)) := (Kept.refl _ _ _).alloc (Nat.le_refl _) _
          have hb5 := heap_new w4 (.cells KD 26)
          generalize w4.alloc (.cells KD 26) = w5 at hk5 hb5 ⊢
          obtain ⟨kc, hkc⟩ : ∃ kc, kc = w4.heap.size := ⟨_, rfl⟩
          rw [← hkc] at hb5 ⊢
          have K5 := Lib.hid (K4.out.then hk5)
          have HR5 := Lib.hid (HR4.out.kept hk5)
          have HC5 := Lib.hid (HC4.out.kept hk5)
          have HB5 := Lib.hid ((hk5.block _ (lt_of_block HB4.out) (Nat.ne_of_lt (lt_of_block HB4.out))).trans HB4.out)
          have HD5 := Lib.hid hb5
          clear hk5 hb5 hkc
          refine @BigFrame.wpList_want _ _ _ _ _ _ _ ?hy24 ?_
          case hy24 => kernel_rfl
          intro K hK
          go_simp
          refine hK _ _ ?_
          clear hK K
          go_upto_region 17 with fail
          refine wp_region_lit ?_
          refine @BigFrame.wpList_want _ _ _ _ _ _ _ ?hy25 ?_
          case hy25 => kernel_rfl
          intro K hK
          go_simp
          refine hK _ _ ?_
          clear hK K
          refine @BigFrame.wpList_want _ _ _ _ _ _ _ ?hy26 ?_
          case hy26 => kernel_rfl
          intro K hK
          go_simp
          refine hK _ _ ?_
          clear hK K
          refine @BigFrame.wpList_want _ _ _ _ _ _ _ ?hy27 ?_
          case hy27 => kernel_rfl
          intro K hK
          go_simp
          go_at_call 30
          refine (HLOOK.out r2 sl _ w5 HC5.out HGR.out (by simp) HKR.out).mono ?_
          rintro e w6 ⟨rfl, k6⟩
          refine hK _ _ ?_
          clear hK K
          have K6 := Lib.hid (K5.out.then k6)
          have HR6 := Lib.hid (HR5.out.kept k6)
          have HC6 := Lib.hid (HC5.out.kept k6)
          have HB6 := Lib.hid ((k6.block _ (lt_of_block HB5.out) (Nat.ne_of_lt (lt_of_block HB5.out))).trans HB5.out)
          have HD6 := Lib.hid ((k6.block _ (lt_of_block HD5.out) (Nat.ne_of_lt (lt_of_block HD5.out))).trans HD5.out)
          clear k6
          refine @BigFrame.wpList_want _ _ _ _ _ _ _ ?hy28 ?_
          case hy28 => kernel_rfl
          intro K hK
          go_simp
          refine hK _ _ ?_
          clear hK K
          refine @BigFrame.wpList_want _ _ _ _ _ _ _ ?hy29 ?_
          case hy29 => kernel_rfl
          intro K hK
          go_simp
          refine hK _ _ ?_
          clear hK K
          refine @BigFrame.wpList_want _ _ _ _ _ _ _ ?hy30 ?_
          case hy30 => kernel_rfl
          intro K hK
          go_simp
          refine hK _ _ ?_
          clear hK K
          refine wpList_alloc_k rfl 26 rfl (alloc_hash _) ?_
          simp only [Act.put, List.setIfInBounds_toArray, List.set_cons_zero, List.set_cons_succ]
          refine wpList_store_row rfl 26 _ _ rfl (w6.heap.size) KD rfl rfl 26 zeros32 (heap_new _ _) (HKI.out) (by rw [zeros32_size, HKS.out]) (HKA.out) ?_
          simp only [Act.put]
          rw [World.setRow_alloc_new]
          have hk7 : Kept w6.heap.size w6.heap.size w6 (w6.alloc (.cells KD 26)) := (Kept.refl _ _ _).alloc (Nat.le_refl _) _
          have hb7 := heap_new w6 (.cells KD 26)
          generalize w6.alloc (.cells KD 26) = w7 at hk7 hb7 ⊢
          obtain ⟨ke, hke⟩ : ∃ ke, ke = w6.heap.size := ⟨_, rfl⟩
          rw [← hke] at hb7 ⊢
          have K7 := Lib.hid (K6.out.then hk7)
          have HR7 := Lib.hid (HR6.out.kept hk7)
          have HC7 := Lib.hid (HC6.out.kept hk7)
          have HB7 := Lib.hid ((hk7.block _ (lt_of_block HB6.out) (Nat.ne_of_lt (lt_of_block HB6.out))).trans HB6.out)
          have HD7 := Lib.hid ((hk7.block _ (lt_of_block HD6.out) (Nat.ne_of_lt (lt_of_block HD6.out))).trans HD6.out)
          have HE7 := Lib.hid hb7
          clear hk7 hb7 hke
          refine @BigFrame.wpList_want _ _ _ _ _ _ _ ?hy31 ?_
          case hy31 => kernel_rfl
          intro K hK
          go_simp
          refine hK _ _ ?_
          clear hK K
          go_upto_region 18 with fail
          refine wp_region_lit ?_
          refine @BigFrame.wpList_want _ _ _ _ _ _ _ ?hy32 ?_
          case hy32 => kernel_rfl
          intro K hK
          go_simp
          refine hK _ _ ?_
          clear hK K
          refine @BigFrame.wpList_want _ _ _ _ _ _ _ ?hy33 ?_
          case hy33 => kernel_rfl
          intro K hK
          go_simp
          refine hK _ _ ?_
          clear hK K
          refine @BigFrame.wpList_want _ _ _ _ _ _ _ ?hy34 ?_
          case hy34 => kernel_rfl
          intro K hK
          go_simp
          refine hK _ _ ?_
          clear hK K
          refine @wpList_load_known _ _ _ _ _ _ _ ?hy35 26 (.tmp 19) rfl (ke) 0 rfl (.agg KD) (run_loadVar_row _ (ke) 26 26 KD (0, 0) _ (HE7.out) Try.underlying26 rfl (HKI.out)) ?_
          case hy35 => kernel_rfl
          simp only [Act.put, List.setIfInBounds_toArray, List.set_cons_zero, List.set_cons_succ]
          refine @wpList_load_known _ _ _ _ _ _ _ ?hy36 26 (.tmp 13) rfl (kb) 0 rfl (.agg KD) (run_loadVar_row _ (kb) 26 26 KD (0, 0) _ (HB7.out) Try.underlying26 rfl (HKI.out)) ?_
          case hy36 => kernel_rfl
          simp only [Act.put, List.setIfInBounds_toArray, List.set_cons_zero, List.set_cons_succ]
          refine @BigFrame.wpList_want _ _ _ _ _ _ _ ?hy37 ?_
          case hy37 => kernel_rfl
          intro K hK
          go_simp
          refine hK _ _ ?_
          clear hK K
          refine @BigFrame.wpList_want _ _ _ _ _ _ _ ?hy38 ?_
          case hy38 => kernel_rfl
          intro K hK
          go_simp
          refine hK _ _ ?_
          clear hK K
          refine @BigFrame.wpList_want _ _ _ _ _ _ _ ?hy39 ?_
          case hy39 => kernel_rfl
          intro K hK
          go_simp
          refine hK _ _ ?_
          clear hK K
          refine @BigFrame.wpList_want _ _ _ _ _ _ _ ?hy40 ?_
          case hy40 => kernel_rfl
          intro K hK
          go_simp
          refine hK _ _ ?_
          clear hK K
          refine @BigFrame.wpList_want _ _ _ _ _ _ _ ?hy41 ?_
          case hy41 => kernel_rfl
          intro K hK
          go_simp
          go_at_call 33
          refine (seeds_calls n _ r2 sl w7 HC7.out (fun s hs => (HGR.out.1 s hs).2.2) (by simp)).mono ?_
          rintro e w8 ⟨v8, rfl, o8, k8⟩
          obtain ⟨ad8, c8, rfl⟩ := o8.slice
          refine hK _ _ ?_
          clear hK K
          have K8 := Lib.hid (K7.out.then k8)
          have HR9 := Lib.hid (HR7.out.kept k8)
          have HB8 := Lib.hid ((k8.block _ (lt_of_block HB7.out) (Nat.ne_of_lt (lt_of_block HB7.out))).trans HB7.out)
          have HD8 := Lib.hid ((k8.block _ (lt_of_block HD7.out) (Nat.ne_of_lt (lt_of_block HD7.out))).trans HD7.out)
          clear o8 k8
          refine @BigFrame.wpList_want _ _ _ _ _ _ _ ?hy42 ?_
          case hy42 => kernel_rfl
          intro K hK
          go_simp
          refine hK _ _ ?_
          clear hK K
          refine @BigFrame.wpList_want _ _ _ _ _ _ _ ?hy43 ?_
          case hy43 => kernel_rfl
          intro K hK
          go_simp
          refine hK _ _ ?_
          clear hK K
          refine @BigFrame.wpList_want _ _ _ _ _ _ _ ?hy44 ?_
          case hy44 => kernel_rfl
          intro K hK
          go_simp
          refine hK _ _ ?_
          clear hK K
          refine @BigFrame.wpList_want _ _ _ _ _ _ _ ?hy45 ?_
          case hy45 => kernel_rfl
          intro K hK
          go_simp
          refine hK _ _ ?_
          clear hK K
          refine @BigFrame.wpList_want _ _ _ _ _ _ _ ?hy46 ?_
          case hy46 => kernel_rfl
          intro K hK
          go_simp
          refine hK _ _ ?_
          clear hK K
          refine @BigFrame.wpList_want _ _ _ _ _ _ _ ?hy47 ?_
          case hy47 => kernel_rfl
          intro K hK
          go_simp
          refine hK _ _ ?_
          clear hK K
          refine @BigFrame.wpList_want _ _ _ _ _ _ _ ?hy48 ?_
          case hy48 => kernel_rfl
          intro K hK
          go_simp
          go_at_call 34
          refine (gone_key n HN32.out M rb sl' pl HP2.out k0 (HGF.out rfl) _ HR9.out HGM.out HM6.out).mono ?_
          rintro e w9 ⟨rfl, k9⟩
          refine hK _ _ ?_
          clear hK K
          have K9 := Lib.hid (K8.out.then k9)
          have HB9 := Lib.hid ((k9.block _ (lt_of_block HB8.out) (Nat.ne_of_lt (lt_of_block HB8.out))).trans HB8.out)
          have HD9 := Lib.hid ((k9.block _ (lt_of_block HD8.out) (Nat.ne_of_lt (lt_of_block HD8.out))).trans HD8.out)
          clear k9
          refine @BigFrame.wpList_want _ _ _ _ _ _ _ ?hy49 ?_
          case hy49 => kernel_rfl
          intro K hK
          go_simp
          refine hK _ _ ?_
          clear hK K
          refine @BigFrame.wpList_want _ _ _ _ _ _ _ ?hy50 ?_
          case hy50 => kernel_rfl
          intro K hK
          go_simp
          refine hK _ _ ?_
          clear hK K
          refine @BigFrame.wpList_want _ _ _ _ _ _ _ ?hy51 ?_
          case hy51 => kernel_rfl
          intro K hK
          go_simp
          refine hK _ _ ?_
          clear hK K
          go_upto_region 22 with fail
          refine wp_region_lit ?_
          refine @BigFrame.wpList_want _ _ _ _ _ _ _ ?hy52 ?_
          case hy52 => kernel_rfl
          intro K hK
          go_simp
          refine hK _ _ ?_
          clear hK K
          refine @BigFrame.wpList_want _ _ _ _ _ _ _ ?hy53 ?_
          case hy53 => kernel_rfl
          intro K hK
          go_simp
          refine hK _ _ ?_
          clear hK K
          refine @BigFrame.wpList_want _ _ _ _ _ _ _ ?hy54 ?_
          case hy54 => kernel_rfl
          intro K hK
          go_simp
          refine hK _ _ ?_
          clear hK K
          refine @wpList_load_known _ _ _ _ _ _ _ ?hy55 26 (.tmp 18) rfl (kc) 0 rfl (.agg KD) (run_loadVar_row _ (kc) 26 26 KD (0, 0) _ (HD9.out) Try.underlying26 rfl (HKI.out)) ?_
          case hy55 => kernel_rfl
          simp only [Act.put, List.setIfInBounds_toArray, List.set_cons_zero, List.set_cons_succ]
          refine @wpList_load_known _ _ _ _ _ _ _ ?hy56 26 (.tmp 13) rfl (kb) 0 rfl (.agg KD) (run_loadVar_row _ (kb) 26 26 KD (0, 0) _ (HB9.out) Try.underlying26 rfl (HKI.out)) ?_
          case hy56 => kernel_rfl
          simp only [Act.put, List.setIfInBounds_toArray, List.set_cons_zero, List.set_cons_succ]
          refine @BigFrame.wpList_want _ _ _ _ _ _ _ ?hy57 ?_
          case hy57 => kernel_rfl
          intro K hK
          go_simp
          refine hK _ _ ?_
          clear hK K
          refine @BigFrame.wpList_want _ _ _ _ _ _ _ ?hy58 ?_
          case hy58 => kernel_rfl
          intro K hK
          go_simp
          refine hK _ _ ?_
          clear hK K
          refine @BigFrame.wpList_want _ _ _ _ _ _ _ ?hy59 ?_
          case hy59 => kernel_rfl
          intro K hK
          go_simp
          refine hK _ _ ?_
          clear hK K
          go_wp2
          go_ret
          exact ⟨rfl, K9.out⟩
        · go_upto_region 16 with fail
          refine wp_region_lit ?_
          refine @BigFrame.wpList_want _ _ _ _ _ _ _ ?hy60 ?_
          case hy60 => kernel_rfl
          intro K hK
          go_simp
          refine hK _ _ ?_
          clear hK K
          refine @BigFrame.wpList_want _ _ _ _ _ _ _ ?hy61 ?_
          case hy61 => kernel_rfl
          intro K hK
          go_simp
          refine hK _ _ ?_
          clear hK K
          refine @BigFrame.wpList_want _ _ _ _ _ _ _ ?hy62 ?_
          case hy62 => kernel_rfl
          intro K hK
          go_simp
          go_at_call 30
          refine (look_gone n HN32.out M rb sl' pl HP2.out (HGT.out rfl) wr HR.out HGM.out HM6.out).mono ?_
          rintro e w4 ⟨rfl, k4⟩
          refine hK _ _ ?_
          clear hK K
          have K4 := Lib.hid (HK.out.then k4)
          have HR4 := Lib.hid (HR.out.kept k4)
          have HC4 := Lib.hid (HCP.out.kept k4)
          have HB4 := Lib.hid ((k4.block _ (lt_of_block HKB.out) (Nat.ne_of_lt (lt_of_block HKB.out))).trans HKB.out)
          clear k4
          refine @BigFrame.wpList_want _ _ _ _ _ _ _ ?hy63 ?_
          case hy63 => kernel_rfl
          intro K hK
          go_simp
          refine hK _ _ ?_
          clear hK K
          refine @BigFrame.wpList_want _ _ _ _ _ _ _ ?hy64 ?_
          case hy64 => kernel_rfl
          intro K hK
          go_simp
          refine hK _ _ ?_
          clear hK K
          refine @BigFrame.wpList_want _ _ _ _ _ _ _ ?hy65 ?_
          case hy65 => kernel_rfl
          intro K hK
          go_simp
          refine hK _ _ ?_
          clear hK K
          refine wpList_alloc_k rfl 26 rfl (alloc_hash _) ?_
          simp only [Act.put, List.setIfInBounds_toArray, List.set_cons_zero, List.set_cons_succ]
          refine wpList_store_row rfl 26 _ _ rfl (w4.heap.size) zeros32 rfl rfl 26 zeros32 (heap_new _ _) (HZI.out) (rfl) (zeros32_all) ?_
          simp only [Act.put]
          rw [World.setRow_alloc_new]
          have hk5 : Kept w4.heap.size w4.heap.size w4 (w4.alloc (.cells zeros32 26)) := (Kept.refl _ _ _).alloc (Nat.le_refl _) _
          have hb5 := heap_new w4 (.cells zeros32 26)
          generalize w4.alloc (.cells zeros32 26) = w5 at hk5 hb5 ⊢
          obtain ⟨kc, hkc⟩ : ∃ kc, kc = w4.heap.size := ⟨_, rfl⟩
          rw [← hkc] at hb5 ⊢
          have K5 := Lib.hid (K4.out.then hk5)
          have HR5 := Lib.hid (HR4.out.kept hk5)
          have HC5 := Lib.hid (HC4.out.kept hk5)
          have HB5 := Lib.hid ((hk5.block _ (lt_of_block HB4.out) (Nat.ne_of_lt (lt_of_block HB4.out))).trans HB4.out)
          have HD5 := Lib.hid hb5
          clear hk5 hb5 hkc
          refine @BigFrame.wpList_want _ _ _ _ _ _ _ ?hy66 ?_
          case hy66 => kernel_rfl
          intro K hK
          go_simp
          refine hK _ _ ?_
          clear hK K
          go_upto_region 17 with fail
          refine wp_region_lit ?_
          refine @BigFrame.wpList_want _ _ _ _ _ _ _ ?hy67 ?_
          case hy67 => kernel_rfl
          intro K hK
          go_simp
          refine hK _ _ ?_
          clear hK K
          refine @BigFrame.wpList_want _ _ _ _ _ _ _ ?hy68 ?_
          case hy68 => kernel_rfl
          intro K hK
          go_simp
          refine hK _ _ ?_
          clear hK K
          refine @BigFrame.wpList_want _ _ _ _ _ _ _ ?hy69 ?_
          case hy69 => kernel_rfl
          intro K hK
          go_simp
          go_at_call 30
          refine (HLOOK.out r2 sl _ w5 HC5.out HGR.out (by simp) HKR.out).mono ?_
          rintro e w6 ⟨rfl, k6⟩
          refine hK _ _ ?_
          clear hK K
          have K6 := Lib.hid (K5.out.then k6)
          have HR6 := Lib.hid (HR5.out.kept k6)
          have HC6 := Lib.hid (HC5.out.kept k6)
          have HB6 := Lib.hid ((k6.block _ (lt_of_block HB5.out) (Nat.ne_of_lt (lt_of_block HB5.out))).trans HB5.out)
          have HD6 := Lib.hid ((k6.block _ (lt_of_block HD5.out) (Nat.ne_of_lt (lt_of_block HD5.out))).trans HD5.out)
          clear k6
          refine @BigFrame.wpList_want _ _ _ _ _ _ _ ?hy70 ?_
          case hy70 => kernel_rfl
          intro K hK
          go_simp
          refine hK _ _ ?_
          clear hK K
          refine @BigFrame.wpList_want _ _ _ _ _ _ _ ?hy71 ?_
          case hy71 => kernel_rfl
          intro K hK
          go_simp
          refine hK _ _ ?_
          clear hK K
          refine @BigFrame.wpList_want _ _ _ _ _ _ _ ?hy72 ?_
          case hy72 => kernel_rfl
          intro K hK
          go_simp
          refine hK _ _ ?_
          clear hK K
          refine wpList_alloc_k rfl 26 rfl (alloc_hash _) ?_
          simp only [Act.put, List.setIfInBounds_toArray, List.set_cons_zero, List.set_cons_succ]
          refine wpList_store_row rfl 26 _ _ rfl (w6.heap.size) KD rfl rfl 26 zeros32 (heap_new _ _) (HKI.out) (by rw [zeros32_size, HKS.out]) (HKA.out) ?_
          simp only [Act.put]
          rw [World.setRow_alloc_new]
          have hk7 : Kept w6.heap.size w6.heap.size w6 (w6.alloc (.cells KD 26)) := (Kept.refl _ _ _).alloc (Nat.le_refl _) _
          have hb7 := heap_new w6 (.cells KD 26)
          generalize w6.alloc (.cells KD 26) = w7 at hk7 hb7 ⊢
          obtain ⟨ke, hke⟩ : ∃ ke, ke = w6.heap.size := ⟨_, rfl⟩
          rw [← hke] at hb7 ⊢
          have K7 := Lib.hid (K6.out.then hk7)
          have HR7 := Lib.hid (HR6.out.kept hk7)
          have HC7 := Lib.hid (HC6.out.kept hk7)
          have HB7 := Lib.hid ((hk7.block _ (lt_of_block HB6.out) (Nat.ne_of_lt (lt_of_block HB6.out))).trans HB6.out)
          have HD7 := Lib.hid ((hk7.block _ (lt_of_block HD6.out) (Nat.ne_of_lt (lt_of_block HD6.out))).trans HD6.out)
          have HE7 := Lib.hid hb7
          clear hk7 hb7 hke
          refine @BigFrame.wpList_want _ _ _ _ _ _ _ ?hy73 ?_
          case hy73 => kernel_rfl
          intro K hK
          go_simp
          refine hK _ _ ?_
          clear hK K
          go_upto_region 18 with fail
          refine wp_region_lit ?_
          refine @BigFrame.wpList_want _ _ _ _ _ _ _ ?hy74 ?_
          case hy74 => kernel_rfl
          intro K hK
          go_simp
          refine hK _ _ ?_
          clear hK K
          refine @BigFrame.wpList_want _ _ _ _ _ _ _ ?hy75 ?_
          case hy75 => kernel_rfl
          intro K hK
          go_simp
          refine hK _ _ ?_
          clear hK K
          refine @BigFrame.wpList_want _ _ _ _ _ _ _ ?hy76 ?_
          case hy76 => kernel_rfl
          intro K hK
          go_simp
          refine hK _ _ ?_
          clear hK K
          refine @wpList_load_known _ _ _ _ _ _ _ ?hy77 26 (.tmp 19) rfl (ke) 0 rfl (.agg KD) (run_loadVar_row _ (ke) 26 26 KD (0, 0) _ (HE7.out) Try.underlying26 rfl (HKI.out)) ?_
          case hy77 => kernel_rfl
          simp only [Act.put, List.setIfInBounds_toArray, List.set_cons_zero, List.set_cons_succ]
          refine @wpList_load_known _ _ _ _ _ _ _ ?hy78 26 (.tmp 13) rfl (kb) 0 rfl (.agg KD) (run_loadVar_row _ (kb) 26 26 KD (0, 0) _ (HB7.out) Try.underlying26 rfl (HKI.out)) ?_
          case hy78 => kernel_rfl
          simp only [Act.put, List.setIfInBounds_toArray, List.set_cons_zero, List.set_cons_succ]
          refine @BigFrame.wpList_want _ _ _ _ _ _ _ ?hy79 ?_
          case hy79 => kernel_rfl
          intro K hK
          go_simp
          refine hK _ _ ?_
          clear hK K
          refine @BigFrame.wpList_want _ _ _ _ _ _ _ ?hy80 ?_
          case hy80 => kernel_rfl
          intro K hK
          go_simp
          refine hK _ _ ?_
          clear hK K
          refine @BigFrame.wpList_want _ _ _ _ _ _ _ ?hy81 ?_
          case hy81 => kernel_rfl
          intro K hK
          go_simp
          refine hK _ _ ?_
          clear hK K
          refine @BigFrame.wpList_want _ _ _ _ _ _ _ ?hy82 ?_
          case hy82 => kernel_rfl
          intro K hK
          go_simp
          refine hK _ _ ?_
          clear hK K
          refine @BigFrame.wpList_want _ _ _ _ _ _ _ ?hy83 ?_
          case hy83 => kernel_rfl
          intro K hK
          go_simp
          go_at_call 33
          refine (seeds_calls n _ r2 sl w7 HC7.out (fun s hs => (HGR.out.1 s hs).2.2) (by simp)).mono ?_
          rintro e w8 ⟨v8, rfl, o8, k8⟩
          obtain ⟨ad8, c8, rfl⟩ := o8.slice
          refine hK _ _ ?_
          clear hK K
          have K8 := Lib.hid (K7.out.then k8)
          have HR9 := Lib.hid (HR7.out.kept k8)
          have HB8 := Lib.hid ((k8.block _ (lt_of_block HB7.out) (Nat.ne_of_lt (lt_of_block HB7.out))).trans HB7.out)
          have HD8 := Lib.hid ((k8.block _ (lt_of_block HD7.out) (Nat.ne_of_lt (lt_of_block HD7.out))).trans HD7.out)
          clear o8 k8
          refine @BigFrame.wpList_want _ _ _ _ _ _ _ ?hy84 ?_
          case hy84 => kernel_rfl
          intro K hK
          go_simp
          refine hK _ _ ?_
          clear hK K
          refine @BigFrame.wpList_want _ _ _ _ _ _ _ ?hy85 ?_
          case hy85 => kernel_rfl
          intro K hK
          go_simp
          refine hK _ _ ?_
          clear hK K
          refine @BigFrame.wpList_want _ _ _ _ _ _ _ ?hy86 ?_
          case hy86 => kernel_rfl
          intro K hK
          go_simp
          refine hK _ _ ?_
          clear hK K
          refine @BigFrame.wpList_want _ _ _ _ _ _ _ ?hy87 ?_
          case hy87 => kernel_rfl
          intro K hK
          go_simp
          refine hK _ _ ?_
          clear hK K
          refine @BigFrame.wpList_want _ _ _ _ _ _ _ ?hy88 ?_
          case hy88 => kernel_rfl
          intro K hK
          go_simp
          refine hK _ _ ?_
          clear hK K
          refine @BigFrame.wpList_want _ _ _ _ _ _ _ ?hy89 ?_
          case hy89 => kernel_rfl
          intro K hK
          go_simp
          refine hK _ _ ?_
          clear hK K
          refine @BigFrame.wpList_want _ _ _ _ _ _ _ ?hy90 ?_
          case hy90 => kernel_rfl
          intro K hK
          go_simp
          go_at_call 34
          refine (gone_gone n HN32.out M rb sl' pl HP2.out (HGT.out rfl) _ HR9.out HGM.out HM6.out).mono ?_
          rintro e w9 ⟨rfl, k9⟩
          refine hK _ _ ?_
          clear hK K
          have K9 := Lib.hid (K8.out.then k9)
          have HB9 := Lib.hid ((k9.block _ (lt_of_block HB8.out) (Nat.ne_of_lt (lt_of_block HB8.out))).trans HB8.out)
          have HD9 := Lib.hid ((k9.block _ (lt_of_block HD8.out) (Nat.ne_of_lt (lt_of_block HD8.out))).trans HD8.out)
          clear k9
          refine @BigFrame.wpList_want _ _ _ _ _ _ _ ?hy91 ?_
          case hy91 => kernel_rfl
          intro K hK
          go_simp
          refine hK _ _ ?_
          clear hK K
          refine @BigFrame.wpList_want _ _ _ _ _ _ _ ?hy92 ?_
          case hy92 => kernel_rfl
          intro K hK
          go_simp
          refine hK _ _ ?_
          clear hK K
          refine @BigFrame.wpList_want _ _ _ _ _ _ _ ?hy93 ?_
          case hy93 => kernel_rfl
          intro K hK
          go_simp
          refine hK _ _ ?_
          clear hK K
          go_wp2
          go_ret
          exact ⟨rfl, K9.out⟩
  · have hlen' : ¬ (ln : Int) ≤ 24 := by omega
    have hgt : (24 : Int) < (ln : Int) := by omega
    go_wp2_with (first
      | (go_at_call 25; refine (ppr_awake _).mono ?_; rintro e w2 ⟨rfl, k2⟩; have K2 := Lib.hid (K1.out.then k2); clear K1)
      | (go_at_call 25; refine (ppr_awake _).mono ?_; rintro e w3 ⟨rfl, k3⟩; have K3 := Lib.hid (K2.out.then k3)))
    go_ret
    exact ⟨rfl, K3.out⟩

end Go.Proofs.Ytcoljiopnfgjaaa
