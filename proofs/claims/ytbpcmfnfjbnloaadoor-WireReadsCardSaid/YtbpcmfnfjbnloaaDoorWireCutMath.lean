/-
  Bytes that were cut off: reading what was put either gives what was put, with the cut further on, or fails for want of bytes.
-/
import Derived.Test.YtbpcmfnfjbnloaaDoorWireAll
import Derived.Test.YtbpcmfnfjbnloaaDoorWireBackLaw
import Derived.Test.YtbpcmfnfjbnloaaDoorWireOneLaw
namespace Go.Proofs.YtbpcmfnfjbnloaaDoor
open Go.RowKit

/-- What is left is R, cut off somewhere ahead of its end; or the reader has failed for want of bytes. -/
def Cut (R l : List UInt8) (e : Int) : Prop := (e = 0 ∧ ∃ m, l = R.take m ∧ m < R.length) ∨ (e = 2 ∧ l = [])

theorem take_app (x rr : List UInt8) (m : Nat) (h : x.length ≤ m) : (x ++ rr).take m = x ++ rr.take (m - x.length) := by
  rw [List.take_append, List.take_of_length_le h]
theorem take_pre (x rr : List UInt8) (m : Nat) (h : m < x.length) : (x ++ rr).take m = x.take m := by
  rw [List.take_append_of_le_length (by omega)]

theorem cut_hash (x rr l : List UInt8) (e : Int) (hx : x.length = 32) (h : Cut (x ++ rr) l e) : ((gHash l e).err = 0 → (gHash l e).val = x) ∧ Cut rr (gHash l e).left (gHash l e).err := by
  rcases h with ⟨rfl, m, rfl, hm⟩ | ⟨rfl, rfl⟩
  · rw [List.length_append] at hm
    by_cases hlt : m < 32
    · have e1 : gHash ((x ++ rr).take m) 0 = ⟨List.replicate 32 0, [], 2⟩ := by
        rw [gHash, if_pos rfl, if_pos (by rw [List.length_take]; omega)]
      rw [e1]
      exact ⟨fun h => by simp at h, .inr ⟨rfl, rfl⟩⟩
    · have e1 : gHash ((x ++ rr).take m) 0 = ⟨x, rr.take (m - 32), 0⟩ := by
        rw [gHash, if_pos rfl, if_neg (by rw [List.length_take, List.length_append]; omega), take_app x rr m (by omega), List.take_left' hx, List.drop_left' hx, hx]
      rw [e1]
      exact ⟨fun _ => rfl, .inl ⟨rfl, m - 32, rfl, by omega⟩⟩
  · exact ⟨fun h => by simp [gHash] at h, .inr ⟨rfl, rfl⟩⟩

/-- A number that was cut off. -/
theorem rNum_cut (n : Nat) (hn : n ≤ 4611686018427387903) (m : Nat) (hm : m < (Wm.enc n).length) (most : Int) : Wm.rNum ((Wm.enc n).take m) most = ⟨0, [], 2⟩ := by
  obtain ⟨f, t, he, hlen, _, _⟩ := Wm.enc_form n hn
  rw [he] at hm ⊢
  cases m with
  | zero => rfl
  | succ m =>
    rw [List.take_succ_cons, Wm.rNum, if_pos]
    rw [List.length_cons] at hm
    rw [List.length_take]
    omega

theorem cut_text (s rr l : List UInt8) (e : Int) (hs : s.length ≤ 65536) (h : Cut (Wm.enc s.length ++ s ++ rr) l e) : ((gText l e 65536).err = 0 → (gText l e 65536).val = s) ∧ Cut rr (gText l e 65536).left (gText l e 65536).err := by
  rcases h with ⟨rfl, m, rfl, hm⟩ | ⟨rfl, rfl⟩
  · rw [List.length_append, List.length_append] at hm
    by_cases h1 : m < (Wm.enc s.length).length
    · have e1 : gText ((Wm.enc s.length ++ s ++ rr).take m) 0 65536 = ⟨[], [], 2⟩ := by
        have e2 : (Wm.enc s.length ++ s ++ rr).take m = (Wm.enc s.length).take m := by rw [List.append_assoc, take_pre _ _ _ h1]
        have e3 := rNum_cut s.length (by omega) m h1 65536
        rw [gText, if_pos rfl, e2, Wm.rText, show min (65536 : Int) 65536 = 65536 from rfl, e3]
        rfl
      rw [e1]
      exact ⟨fun h => by simp at h, .inr ⟨rfl, rfl⟩⟩
    · by_cases h2 : m < (Wm.enc s.length).length + s.length
      · have e1 : gText ((Wm.enc s.length ++ s ++ rr).take m) 0 65536 = ⟨[], [], 2⟩ := by
          have e2 : (Wm.enc s.length ++ s ++ rr).take m = Wm.enc s.length ++ s.take (m - (Wm.enc s.length).length) := by
            rw [take_pre _ _ _ (by rw [List.length_append]; omega), take_app _ _ _ (by omega)]
          have e3 := Wm.rNum_enc s.length (by omega) (s.take (m - (Wm.enc s.length).length)) 65536 (by omega)
          rw [gText, if_pos rfl, e2, Wm.rText, show min (65536 : Int) 65536 = 65536 from rfl, e3, if_pos rfl]
          show Wm.rRaw (s.take (m - (Wm.enc s.length).length)) ((s.length : Int)).toNat = _
          rw [Int.toNat_natCast, Wm.rRaw, if_pos (by rw [List.length_take]; omega)]
        rw [e1]
        exact ⟨fun h => by simp at h, .inr ⟨rfl, rfl⟩⟩
      · have e1 : gText ((Wm.enc s.length ++ s ++ rr).take m) 0 65536 = ⟨s, rr.take (m - ((Wm.enc s.length).length + s.length)), 0⟩ := by
          rw [gText, if_pos rfl, take_app _ _ _ (by rw [List.length_append]; omega), List.length_append]
          exact rText_enc s hs _ 65536 (by omega)
        rw [e1]
        exact ⟨fun _ => rfl, .inl ⟨rfl, _, rfl, by omega⟩⟩
  · exact ⟨fun h => by simp [gText] at h, .inr ⟨rfl, rfl⟩⟩

theorem cut_end (l : List UInt8) (e : Int) (h : Cut [] l e) : e = 2 ∧ l = [] := by
  rcases h with ⟨_, m, _, hm⟩ | h
  · simp at hm
  · exact h

/-- A thing, taken as a digest or a text. -/
def tcut (t : Th) : Th := { t with kind := if t.kind % 2 = 0 then 2 else 1 }
theorem tcut_ok (t : Th) (h : t.Ok) : (tcut t).Ok := ⟨by show (if t.kind % 2 = 0 then 2 else 1) < 256; split <;> omega, h.s, h.h⟩
theorem tcut_hash (t : Th) (hk : t.kind % 2 = 0) : (tcut t).kind % 4 = 2 := by show (if t.kind % 2 = 0 then 2 else 1) % 4 = 2; rw [if_pos hk]
theorem tcut_text (t : Th) (hk : t.kind % 2 = 1) : (tcut t).kind % 4 = 1 := by show (if t.kind % 2 = 0 then 2 else 1) % 4 = 1; rw [if_neg (by omega)]

end Go.Proofs.YtbpcmfnfjbnloaaDoor
