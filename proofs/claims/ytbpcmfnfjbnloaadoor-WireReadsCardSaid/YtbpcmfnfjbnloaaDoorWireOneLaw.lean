/-
  The walk of the statement WireOne: bytes that were gone through without an error, put again, are the same bytes.
-/
import Derived.Test.YtbpcmfnfjbnloaaDoorWireAll
import Derived.Test.YtbpcmfnfjbnloaaDoorWireText
namespace Go.Proofs.YtbpcmfnfjbnloaaDoor
open Go.RowKit

/-- A slice of bytes: its length, and what each is. -/
structure U8s (w : World) (v : Value) (len : Nat) (K : Nat → Nat) : Prop where
  lenLe : len ≤ 9223372036854775807
  ok : ∀ i, i < len → K i < 256
  ex : ∃ ao cap, v = .slice ao len cap ∧ (0 < len → ∃ g o, ao = some ⟨g, o, none⟩ ∧ g < w.heap.size ∧ ∀ i, i < len → w.cell? ⟨g, o + i, none⟩ = some (.int .u8 (K i)))
theorem U8s.same {w w' : World} {v : Value} {len : Nat} {K : Nat → Nat} (h : U8s w v len K) (k : Kept w.heap.size w.heap.size w w') : U8s w' v len K := by
  obtain ⟨ao, cap, rfl, hex⟩ := h.ex
  refine ⟨h.lenLe, h.ok, ao, cap, rfl, fun hpos => ?_⟩
  obtain ⟨g, o, rfl, hg, hr⟩ := hex hpos
  refine ⟨g, o, rfl, Nat.lt_of_lt_of_le hg k.size, fun i hi => ?_⟩
  rw [k.cell (p := ⟨g, o + i, none⟩) hg (by show g ≠ w.heap.size; omega)]
  exact hr i hi
theorem u8s_at {w : World} {v : Value} {len : Nat} {K : Nat → Nat} (h : U8s w v len K) (hpos : 0 < len) : ∃ g o cap, v = .slice (some ⟨g, o, none⟩) len cap ∧ (∀ i, i < len → K i < 256) ∧ ∀ i, i < len → w.cell? ⟨g, o + i, none⟩ = some (.int .u8 (K i)) := by
  obtain ⟨ao, cap, rfl, hex⟩ := h.ex
  obtain ⟨g, o, rfl, _, hr⟩ := hex hpos
  exact ⟨g, o, cap, rfl, h.ok, hr⟩

/-- So far: what was put, and what is left, are together the bytes; as long as nothing failed. -/
def Same (S P l : List UInt8) (e : Int) : Prop := e = 0 → P ++ l = S

theorem same_num (S P l : List UInt8) (e : Int) (h : Same S P l e) : pNum (some P) (gNum l e 4611686018427387903).val = some (P ++ Wm.enc (gNum l e 4611686018427387903).val.toNat) ∧
    Same S (P ++ Wm.enc (gNum l e 4611686018427387903).val.toNat) (gNum l e 4611686018427387903).left (gNum l e 4611686018427387903).err := by
  unfold gNum
  split
  · rename_i he
    have hv := Wm.rNum_val l 4611686018427387903
    refine ⟨by rw [pNum, if_pos hv]; rfl, fun h0 => ?_⟩
    have := Wm.enc_rNum l 4611686018427387903 h0
    rw [List.append_assoc, ← this]
    exact h he
  · rename_i he
    exact ⟨rfl, fun h0 => absurd h0 he⟩

theorem rText_form (l : List UInt8) : (Wm.rText l 65536).val.length ≤ 65536 ∧ ((Wm.rText l 65536).err = 0 → l = Wm.enc (Wm.rText l 65536).val.length ++ (Wm.rText l 65536).val ++ (Wm.rText l 65536).left) := by
  unfold Wm.rText
  rw [show min (65536 : Int) 65536 = 65536 from rfl]
  split
  · rename_i h0
    have hv := Wm.rNum_val l 65536
    have hle := Wm.rNum_le l 65536 h0
    have hform := Wm.enc_rNum l 65536 h0
    generalize Wm.rNum l 65536 = r at *
    unfold Wm.rRaw
    split
    · exact ⟨by simp, fun h => by simp at h⟩
    · rename_i hlen
      have hl : (r.left.take r.val.toNat).length = r.val.toNat := by rw [List.length_take]; omega
      refine ⟨by rw [hl]; omega, fun _ => ?_⟩
      rw [hl, List.append_assoc, List.take_append_drop]
      exact hform
  · rename_i h0
    exact ⟨by simp, fun h => absurd h h0⟩
theorem same_text (S P l : List UInt8) (e : Int) (h : Same S P l e) : pText (some P) (gText l e 65536).val = some (P ++ (Wm.enc (gText l e 65536).val.length ++ (gText l e 65536).val)) ∧
    Same S (P ++ (Wm.enc (gText l e 65536).val.length ++ (gText l e 65536).val)) (gText l e 65536).left (gText l e 65536).err := by
  unfold gText
  split
  · rename_i he
    have hv := rText_form l
    refine ⟨by rw [pText, if_pos hv.1]; rfl, fun h0 => ?_⟩
    have := hv.2 h0
    rw [List.append_assoc, ← this]
    exact h he
  · rename_i he
    exact ⟨rfl, fun h0 => absurd h0 he⟩
theorem same_hash (S P l : List UInt8) (e : Int) (h : Same S P l e) : Same S (P ++ (gHash l e).val) (gHash l e).left (gHash l e).err := by
  unfold gHash
  split
  · rename_i he
    split
    · intro h0; simp at h0
    · intro _
      rw [List.append_assoc, List.take_append_drop]
      exact h he
  · rename_i he
    exact fun h0 => absurd h0 he
theorem same_flag (S P l : List UInt8) (e : Int) (h : Same S P l e) : Same S (P ++ [if (gFlag l e).val then 1 else 0]) (gFlag l e).left (gFlag l e).err := by
  unfold gFlag
  split
  · rename_i he
    unfold Wm.rFlag
    split
    · intro h0; simp at h0
    · rename_i f t
      split
      · intro h0; simp at h0
      · intro _
        rename_i hf
        have hc : (if (f.toNat == 1) = true then (1 : UInt8) else 0) = f := by
          rcases (show f.toNat = 0 ∨ f.toNat = 1 by omega) with h1 | h1
          · rw [h1]; exact UInt8.toNat_inj.1 (by rw [h1]; rfl)
          · rw [h1]; exact UInt8.toNat_inj.1 (by rw [h1]; rfl)
        show P ++ [if (f.toNat == 1) = true then 1 else 0] ++ t = S
        rw [hc, List.append_assoc]
        exact h he
  · rename_i he
    exact fun h0 => absurd h0 he

theorem text_le (l : List UInt8) (e : Int) : (gText l e 65536).val.length ≤ 65536 := by
  unfold gText
  split
  · exact (rText_form l).1
  · simp

set_option maxHeartbeats 1600000 in
set_option maxRecDepth 100000 in
theorem one_walk (s : ByteArray) (v : Value) (len : Nat) (K : Nat → Nat) (w : World) (ht : Tab w) (_hs : s.size ≤ 9223372036854775807) (h : U8s w v len K) :
    Calls Tryd.prog 6 #[.string s, v] w fun e w' => e = .returned (.bool true) ∧ Kept w.heap.size w.heap.size w w' := by
  have hpos := ht.lt
  obtain ⟨ao, cap, rfl, _⟩ := h.ex
  have hlm := h.lenLe
  by_cases h1 : (200000 : Int) < s.size
  · have hd : decide ((200000 : Int) < (s.size : Int)) = true := by rw [decide_eq_true_iff]; exact h1
    clear h1
    go_enter Tryd.func6, Tryd.ntmps6
    go_wp2_with fail
    refine (awake_calls _ ht).mono ?_
    rintro e w1 ⟨rfl, k1⟩
    have hs1 := k1.size
    go_wp2_with fail
    refine (awake_calls _ (ht.kept k1 hpos hpos)).mono ?_
    rintro e w2 ⟨rfl, k2⟩
    go_wp2
    go_ret
    exact ⟨rfl, k1.out k2 hs1 hs1⟩
  · have hd : decide ((200000 : Int) < (s.size : Int)) = false := by rw [decide_eq_false_iff_not]; exact h1
    by_cases h2 : 300 < len
    · have hd2 : decide ((300 : Int) < (len : Int)) = true := by rw [decide_eq_true_iff]; omega
      clear h1 h2
      go_enter Tryd.func6, Tryd.ntmps6
      go_wp2_with fail
      refine (awake_calls _ ht).mono ?_
      rintro e w1 ⟨rfl, k1⟩
      have hs1 := k1.size
      go_wp2_with fail
      refine (awake_calls _ (ht.kept k1 hpos hpos)).mono ?_
      rintro e w2 ⟨rfl, k2⟩
      go_wp2
      go_ret
      exact ⟨rfl, k1.out k2 hs1 hs1⟩
    · have hd2 : decide ((300 : Int) < (len : Int)) = false := by rw [decide_eq_false_iff_not]; omega
      have hlen3 : len ≤ 300 := by omega
      clear h1 h2
      go_enter Tryd.func6, Tryd.ntmps6
      go_wp2_with fail
      refine (awake_calls _ ht).mono ?_
      rintro e w1 ⟨rfl, k1⟩
      have hs1 := k1.size
      go_wp2_with fail
      refine (from_calls s _).mono ?_
      rintro e w2 ⟨rfl, h2, k2, s2⟩
      have kk2 := k1.out k2 hs1 hs1
      have hs2 := k2.size
      go_wp2_with fail
      refine (new_calls _).mono ?_
      rintro e w3 ⟨rfl, h3, k3, s3⟩
      have kk3 := kk2.out k3 (by omega) (by omega)
      have h2 := h2.kept k3 (by omega) (by omega)
      have hS : Same s.data.toList [] s.data.toList 0 := fun _ => rfl
      have h3 : Wr w3 (w1.heap.size + 3) (w1.heap.size + 2) (some []) := by rw [s2] at h3; exact h3
      have h2 : Rd w3 (w1.heap.size + 2) (w1.heap.size + 1) s.data.toList 0 := h2
      clear s3 k3 k2 hs2 kk2
      go_wp2_with fail
      go_loopw [7] (fun i wr => ∃ (k : Nat) (l : List UInt8) (e : Int) (P : List UInt8), k ≤ len ∧ i = .int .i64 k ∧ Rd wr (w1.heap.size + 2) (w1.heap.size + 1) l e ∧ Wr wr (w1.heap.size + 3) (w1.heap.size + 2) (some P) ∧ P.length ≤ 65544 * k ∧ Same s.data.toList P l e ∧ Kept w.heap.size w.heap.size w wr) (fun i _ => len - (intOf i).toNat)
      case atStart => exact ⟨0, _, _, _, by omega, rfl, h2, h3, by simp, hS, kk3⟩
      case round =>
        obtain ⟨k, l, e0, P, hk, rfl, hR, hw, hP, hsame, kr⟩ := hrel
        by_cases hlt : k < len
        · obtain ⟨gb, o, cap2, hv, hok, hr⟩ := u8s_at (h.same kr) (by omega)
          cases hv
          have hkk := hok k hlt
          have c0 := hr k hlt
          have htr := ht.kept kr hpos hpos
          have hshort : Short (some P) 700000000 := fun l hl => by cases hl; omega
          have hwle := hw.le
          clear hr hok
          rcases (show K k % 4 = 0 ∨ K k % 4 = 1 ∨ K k % 4 = 2 ∨ K k % 4 = 3 by omega) with hk4 | hk4 | hk4 | hk4
          · have hmod : (K k : Int) % 4 = 0 := by omega
            clear hk4
            go_wp2_with fail
            refine (num_all _ _ l e0 4611686018427387903 _ hR htr (by omega)).mono ?_
            rintro e w5 ⟨rfl, h5, k5⟩
            have sm := same_num _ P l e0 hsame
            generalize hr : gNum l e0 4611686018427387903 = r at h5 sm ⊢
            clear hr hsame
            have HP := Lib.hid sm.1
            have HS := Lib.hid sm.2
            have hle8 := Wm.enc_length_le r.val.toNat
            clear sm
            have hw5 := hw.kept k5 (Nat.le_refl _) (by omega) (by omega)
            have kr5 := kr.out k5 (by omega) (by omega)
            have hs5 := k5.size
            clear hR hw
            go_wp2_with fail
            refine (wnum_v _ _ _ (some P) r.val _ (.inr ⟨rfl, hw5⟩) (ht.kept kr5 hpos hpos) (fun l hl => by have := hshort l hl; omega)).mono ?_
            rintro e w6 ⟨rfl, h6, k6⟩
            have h6 : Wr w6 (w1.heap.size + 3) (w1.heap.size + 2) (some (P ++ Wm.enc r.val.toNat)) := by
              rcases h6 with ⟨h, _⟩ | ⟨_, h⟩
              · cases h
              · rw [HP.out] at h; exact h
            have h7 := h5.kept k6 (by omega) (by omega)
            have kr6 := kr5.out k6 (by omega) (by omega)
            go_wp2
            go_roundw
            case rel => exact ⟨k + 1, _, _, _, by omega, by go_num, h7, h6, by rw [List.length_append]; omega, HS.out, kr6⟩
            case measure => simp [intOf]; omega
          · have hmod : (K k : Int) % 4 = 1 := by omega
            clear hk4
            go_wp2_with fail
            refine (text_all _ _ l e0 65536 _ hR htr (by omega)).mono ?_
            rintro e w5 ⟨rfl, h5, k5⟩
            have sm := same_text _ P l e0 hsame
            have hlen := text_le l e0
            generalize hr : gText l e0 65536 = r at h5 sm hlen ⊢
            clear hr hsame
            have HP : Hid (pText (some P) (str r.val).data.toList = _) := Lib.hid sm.1
            have HS := Lib.hid sm.2
            have hle8 := Wm.enc_length_le r.val.length
            clear sm
            have hw5 := hw.kept k5 (Nat.le_refl _) (by omega) (by omega)
            have kr5 := kr.out k5 (by omega) (by omega)
            have hs5 := k5.size
            clear hR hw
            go_wp2_with fail
            refine (wtext_v _ _ _ (some P) (str r.val) _ (.inr ⟨rfl, hw5⟩) (ht.kept kr5 hpos hpos) (by rw [str_size]; omega) (fun l hl => by have := hshort l hl; omega)).mono ?_
            rintro e w6 ⟨rfl, h6, k6⟩
            have h6 : Wr w6 (w1.heap.size + 3) (w1.heap.size + 2) (some (P ++ (Wm.enc r.val.length ++ r.val))) := by
              rcases h6 with ⟨h, _⟩ | ⟨_, h⟩
              · cases h
              · rw [HP.out] at h; exact h
            have h7 := h5.kept k6 (by omega) (by omega)
            have kr6 := kr5.out k6 (by omega) (by omega)
            go_wp2
            go_roundw
            case rel => exact ⟨k + 1, _, _, _, by omega, by go_num, h7, h6, by rw [List.length_append, List.length_append]; omega, HS.out, kr6⟩
            case measure => simp [intOf]; omega
          · have hmod : (K k : Int) % 4 = 2 := by omega
            clear hk4
            go_wp2_with fail
            refine (hash_all _ _ l e0 _ hR).mono ?_
            rintro e w5 ⟨rfl, h5, k5⟩
            have sm := same_hash _ P l e0 hsame
            have h32 := gHash_length l e0
            generalize hr : gHash l e0 = r at h5 sm h32 ⊢
            clear hr hsame
            have HP : Hid (pRaw (some P) r.val = some (P ++ r.val)) := Lib.hid rfl
            have HS := Lib.hid sm
            clear sm
            have hw5 := hw.kept k5 (Nat.le_refl _) (by omega) (by omega)
            have kr5 := kr.out k5 (by omega) (by omega)
            have hs5 := k5.size
            clear hR hw
            go_wp2_with fail
            refine (whash_v _ _ _ (some P) r.val h32 _ (.inr ⟨rfl, hw5⟩) (fun l hl => by have := hshort l hl; omega)).mono ?_
            rintro e w6 ⟨rfl, h6, k6⟩
            have h6 : Wr w6 (w1.heap.size + 3) (w1.heap.size + 2) (some (P ++ r.val)) := by
              rcases h6 with ⟨h, _⟩ | ⟨_, h⟩
              · cases h
              · rw [HP.out] at h; exact h
            have h7 := h5.kept k6 (by omega) (by omega)
            have kr6 := kr5.out k6 (by omega) (by omega)
            go_wp2
            go_roundw
            case rel => exact ⟨k + 1, _, _, _, by omega, by go_num, h7, h6, by rw [List.length_append, h32]; omega, HS.out, kr6⟩
            case measure => simp [intOf]; omega
          · have hmod : (K k : Int) % 4 = 3 := by omega
            clear hk4
            go_wp2_with fail
            refine (flag_all _ _ l e0 _ hR).mono ?_
            rintro e w5 ⟨rfl, h5, k5⟩
            have sm := same_flag _ P l e0 hsame
            generalize hr : gFlag l e0 = r at h5 sm ⊢
            clear hr hsame
            have HP : Hid (pRaw (some P) [if r.val then 1 else 0] = some (P ++ [if r.val then 1 else 0])) := Lib.hid rfl
            have HS := Lib.hid sm
            clear sm
            have hw5 := hw.kept k5 (Nat.le_refl _) (by omega) (by omega)
            have kr5 := kr.out k5 (by omega) (by omega)
            have hs5 := k5.size
            clear hR hw
            go_wp2_with fail
            refine (wflag_v _ _ _ (some P) r.val _ (.inr ⟨rfl, hw5⟩) (fun l hl => by have := hshort l hl; omega)).mono ?_
            rintro e w6 ⟨rfl, h6, k6⟩
            have h6 : Wr w6 (w1.heap.size + 3) (w1.heap.size + 2) (some (P ++ [if r.val then 1 else 0])) := by
              rcases h6 with ⟨h, _⟩ | ⟨_, h⟩
              · cases h
              · rw [HP.out] at h; exact h
            have h7 := h5.kept k6 (by omega) (by omega)
            have kr6 := kr5.out k6 (by omega) (by omega)
            go_wp2
            go_roundw
            case rel => exact ⟨k + 1, _, _, _, by omega, by go_num, h7, h6, by rw [List.length_append]; show P.length + 1 ≤ _; omega, HS.out, kr6⟩
            case measure => simp [intOf]; omega
        · obtain rfl : k = len := by omega
          have hend := hsame
          have Hend := Lib.hid hend
          clear hsame hend
          by_cases he0 : e0 = 0
          · subst he0
            by_cases hl0 : l = []
            · subst hl0
              have hPS : P = s.data.toList := by have := Hend.out rfl; rwa [List.append_nil] at this
              have hstr : str P = s := (congrArg str hPS).trans (str_of s)
              have Hstr := Lib.hid hstr
              clear hPS hstr
              go_wp2_with fail
              refine (end_all _ _ _ _ _ hR).mono ?_
              rintro e w5 ⟨rfl, rfl⟩
              rw [show gEnd [] 0 = 0 from rfl]
              go_wp2_with fail
              refine (wend_ok _ _ _ _ hw).mono ?_
              rintro e w5 ⟨rfl, rfl⟩
              rw [Hstr.out]
              go_wp2
              go_ret
              exact ⟨rfl, kr⟩
            · have hg : gEnd l 0 = 4 := by rw [gEnd, if_pos rfl, if_neg hl0]
              have Hg := Lib.hid hg
              clear hg
              go_wp2_with fail
              refine (end_all _ _ _ _ _ hR).mono ?_
              rintro e w5 ⟨rfl, rfl⟩
              rw [Hg.out]
              go_wp2
              go_ret
              exact ⟨rfl, kr⟩
          · have hg : gEnd l e0 = e0 := by rw [gEnd, if_neg he0]
            have Hg := Lib.hid hg
            have hb : (e0 != 0) = true := by simpa using he0
            clear hg
            go_wp2_with fail
            refine (end_all _ _ _ _ _ hR).mono ?_
            rintro e w5 ⟨rfl, rfl⟩
            rw [Hg.out]
            go_wp2
            go_ret
            exact ⟨rfl, kr⟩

end Go.Proofs.YtbpcmfnfjbnloaaDoor
