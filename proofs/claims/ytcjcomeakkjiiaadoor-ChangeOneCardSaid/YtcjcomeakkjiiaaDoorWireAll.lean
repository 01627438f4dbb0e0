/-
  The reader's calls over whatever reader, failed or not: one contract for each.
-/
import Derived.Test.YtcjcomeakkjiiaaDoorWireAwake

namespace Go.Proofs.YtcjcomeakkjiiaaDoor
open Go.RowKit

def gNum (l : List UInt8) (e : Int) (most : Int) : Wm.Got Int := if e = 0 then Wm.rNum l most else ⟨0, [], e⟩
def gText (l : List UInt8) (e : Int) (most : Int) : Wm.Got (List UInt8) := if e = 0 then Wm.rText l most else ⟨[], [], e⟩
def gHash (l : List UInt8) (e : Int) : Wm.Got (List UInt8) := if e = 0 then (if l.length < 32 then ⟨List.replicate 32 0, [], 2⟩ else ⟨l.take 32, l.drop 32, 0⟩) else ⟨List.replicate 32 0, [], e⟩
def gFlag (l : List UInt8) (e : Int) : Wm.Got Bool := if e = 0 then Wm.rFlag l else ⟨false, [], e⟩
def gEnd (l : List UInt8) (e : Int) : Int := if e = 0 then (if l = [] then 0 else 4) else e

theorem gHash_length (l : List UInt8) (e : Int) : (gHash l e).val.length = 32 := by
  unfold gHash
  split
  · split
    · rfl
    · simp; omega
  · rfl

/-- What Hash answers, and the reader behind it. -/
def HashPost (w : World) (top b : Nat) (r : Wm.Got (List UInt8)) (e : Ending) (w' : World) : Prop := e = .returned (.agg (bcells r.val).toArray) ∧ Rd w' top b r.left r.err ∧ Kept w.heap.size b w w'

theorem num_all (top b : Nat) (l : List UInt8) (e0 most : Int) (w : World) (h : Rd w top b l e0) (ht : Tab w) (hb0 : 0 < b) :
    Calls Tryd.prog 59 #[.pointer (some ⟨b, 0, none⟩), .int .i64 most] w fun e w' => NumPost w top b (gNum l e0 most) e w' := by
  unfold gNum
  split
  · rename_i he
    subst he
    exact num_run top b l most w h ht hb0
  · rename_i he
    obtain rfl := h.fail he
    refine (num_failed _ e0 most w (h.failed he)).mono ?_
    rintro e w' ⟨rfl, rfl⟩
    exact ⟨rfl, h, Kept.refl _ _ _⟩
theorem hash_all (top b : Nat) (l : List UInt8) (e0 : Int) (w : World) (h : Rd w top b l e0) :
    Calls Tryd.prog 58 #[.pointer (some ⟨b, 0, none⟩)] w fun e w' => HashPost w top b (gHash l e0) e w' := by
  unfold gHash
  split
  · rename_i he
    subst he
    split
    · rename_i hl
      exact rhash_short top b l w h hl
    · rename_i hl
      exact rhash_ok top b l w h (by omega)
  · rename_i he
    obtain rfl := h.fail he
    have hle := h.le
    have hlt := h.lt
    refine (rhash_failed _ e0 w (fun w' k => (h.kept k hle hle).failed he)).mono ?_
    rintro e w' ⟨rfl, k⟩
    exact ⟨rfl, h.kept k hle hle, k.mono (Nat.le_refl _) (fun i hi _ => by omega)⟩
theorem end_all (top b : Nat) (l : List UInt8) (e0 : Int) (w : World) (h : Rd w top b l e0) :
    Calls Tryd.prog 60 #[.pointer (some ⟨b, 0, none⟩)] w fun e w' => e = .returned (.int .i64 (gEnd l e0)) ∧ w = w' := by
  unfold gEnd
  split
  · rename_i he
    subst he
    exact rend_run top b l w h
  · rename_i he
    exact rend_failed _ e0 w (h.failed he)

end Go.Proofs.YtcjcomeakkjiiaaDoor
