/-
  What a writer and a reader are in memory; the table of the four bounds. No operation of the program is named here.
-/
import Derived.Test.YtcoljiopnfgjaaaDoorGA
import Derived.Test.YtcoljiopnfgjaaaDoorWireMath

namespace Go.Proofs.YtcoljiopnfgjaaaDoor
open Go.RowKit

/-! ## The table of the four bounds: block 0. -/
structure Tab (w : World) : Prop where
  c0 : w.cell? ⟨0, 0, none⟩ = some (.int .i64 63)
  c1 : w.cell? ⟨0, 1, none⟩ = some (.int .i64 16383)
  c2 : w.cell? ⟨0, 2, none⟩ = some (.int .i64 1073741823)
  c3 : w.cell? ⟨0, 3, none⟩ = some (.int .i64 4611686018427387903)
theorem Tab.lt {w : World} (h : Tab w) : 0 < w.heap.size := World.block_lt_of_cell? _ _ h.c0
theorem Tab.same {w w' : World} (h : Tab w) (e : w'.heap[0]? = w.heap[0]?) : Tab w' :=
  ⟨(World.cell?_of_block (w := w) e).trans h.c0, (World.cell?_of_block (w := w) e).trans h.c1, (World.cell?_of_block (w := w) e).trans h.c2, (World.cell?_of_block (w := w) e).trans h.c3⟩
theorem Tab.kept {base b : Nat} {w w' : World} (h : Tab w) (k : Kept base b w w') (h1 : 0 < base) (h2 : 0 < b) : Tab w' := h.same (k.block 0 h1 (by omega))
theorem Tab.at {w : World} (h : Tab w) (k : Nat) (hk : k < 4) : w.cell? ⟨0, k, none⟩ = some (.int .i64 (Wm.bnd k)) := by
  match k, hk with
  | 0, _ => exact h.c0
  | 1, _ => exact h.c1
  | 2, _ => exact h.c2
  | 3, _ => exact h.c3

/-! ## A writer: at block b, below 'base'; its bytes in a row of its own from 'base' on. -/
structure WrOk (w : World) (base b : Nat) (l : List UInt8) : Prop where
  lt : b < base
  le : base ≤ w.heap.size
  ex : ∃ a n c, w.heap[b]? = some (.cells #[.slice a n c, .bool false] 110 (0, 0)) ∧ w.ownsRow base 5 1 (.slice a n c) l.length (bcells l)
structure WrBad (w : World) (base b : Nat) : Prop where
  lt : b < base
  le : base ≤ w.heap.size
  ex : ∃ a n c, w.heap[b]? = some (.cells #[.slice a n c, .bool true] 110 (0, 0))
/-- none: it is spoilt. -/
def Wr (w : World) (base b : Nat) : Option (List UInt8) → Prop
  | some l => WrOk w base b l
  | none => WrBad w base b

theorem Wr.lt {w : World} {base b : Nat} {st : Option (List UInt8)} (h : Wr w base b st) : b < base := by
  cases st
  · exact WrBad.lt h
  · exact WrOk.lt h
theorem Wr.le {w : World} {base b : Nat} {st : Option (List UInt8)} (h : Wr w base b st) : base ≤ w.heap.size := by
  cases st
  · exact WrBad.le h
  · exact WrOk.le h

/-- It stays as long as its own blocks do. -/
theorem Wr.same {w w' : World} {base b : Nat} {st : Option (List UInt8)} (h : Wr w base b st) (hs : w.heap.size ≤ w'.heap.size) (hb : w'.heap[b]? = w.heap[b]?) (hr : ∀ k, base ≤ k → k < w.heap.size → w'.heap[k]? = w.heap[k]?) : Wr w' base b st := by
  cases st with
  | none =>
    obtain ⟨a, n, c, h1⟩ := WrBad.ex h
    exact (⟨WrBad.lt h, Nat.le_trans (WrBad.le h) hs, a, n, c, hb.trans h1⟩ : WrBad w' base b)
  | some l =>
    obtain ⟨a, n, c, h1, h2⟩ := WrOk.ex h
    refine (⟨WrOk.lt h, Nat.le_trans (WrOk.le h) hs, a, n, c, hb.trans h1, h2.1, ?_⟩ : WrOk w' base b l)
    rcases h2.2 with h3 | ⟨g, cap, cur, hv, hg, hh, rest⟩
    · exact .inl h3
    · exact .inr ⟨g, cap, cur, hv, hg, (hr g hg (lt_of_block hh)).trans hh, rest⟩
theorem Wr.kept {w w' : World} {base b B r : Nat} {st : Option (List UInt8)} (h : Wr w base b st) (k : Kept B r w w') (hB : w.heap.size ≤ B) (hr : r < base) (hb : r ≠ b) : Wr w' base b st :=
  h.same k.size (k.block b (by have := h.lt; have := h.le; omega) (fun e => hb e.symm)) (fun i h1 h2 => k.block i (by omega) (by omega))
theorem Wr.drew {w : World} {base b : Nat} {st : Option (List UInt8)} (h : Wr w base b st) : Wr w.drew base b st := h.same (Nat.le_refl _) rfl (fun _ _ _ => rfl)
theorem Wr.alloc {w : World} {base b : Nat} {st : Option (List UInt8)} (h : Wr w base b st) (o : Obj) : Wr (w.alloc o) base b st :=
  h.same (by simp) (Below.heap_alloc _ _ _ (by have := h.lt; have := h.le; omega)) (fun k _ hk => Below.heap_alloc _ _ _ hk)

/-- A writer by its pointer: it may be nil (b = base then: nothing is written). -/
def WrV (w : World) (base b : Nat) (p : Value) (st : Option (List UInt8)) : Prop :=
  (p = .pointer none ∧ b = base ∧ base ≤ w.heap.size ∧ st = none) ∨ (p = .pointer (some ⟨b, 0, none⟩) ∧ Wr w base b st)
theorem WrV.le {w : World} {base b : Nat} {p : Value} {st : Option (List UInt8)} (h : WrV w base b p st) : base ≤ w.heap.size := by
  rcases h with ⟨_, _, h, _⟩ | ⟨_, h⟩
  · exact h
  · exact h.le
theorem WrV.alloc {w : World} {base b : Nat} {p : Value} {st : Option (List UInt8)} (h : WrV w base b p st) (o : Obj) : WrV (w.alloc o) base b p st := by
  rcases h with ⟨h1, h2, h3, h4⟩ | ⟨h1, h⟩
  · exact .inl ⟨h1, h2, by simp; omega, h4⟩
  · exact .inr ⟨h1, h.alloc o⟩
theorem WrV.drew {w : World} {base b : Nat} {p : Value} {st : Option (List UInt8)} (h : WrV w base b p st) : WrV w.drew base b p st := by
  rcases h with ⟨h1, h2, h3, h4⟩ | ⟨h1, h⟩
  · exact .inl ⟨h1, h2, h3, h4⟩
  · exact .inr ⟨h1, h.drew⟩

/-! ## What the writer's calls make of its bytes (none: it is spoilt). -/
def pNum (st : Option (List UInt8)) (n : Int) : Option (List UInt8) := if 0 ≤ n ∧ n ≤ 4611686018427387903 then st.map (· ++ Wm.enc n.toNat) else none
def pText (st : Option (List UInt8)) (s : List UInt8) : Option (List UInt8) := if s.length ≤ 65536 then st.map (· ++ (Wm.enc s.length ++ s)) else none
def pRaw (st : Option (List UInt8)) (s : List UInt8) : Option (List UInt8) := st.map (· ++ s)
/-- It has so many bytes at most. -/
def Short (st : Option (List UInt8)) (n : Nat) : Prop := ∀ l, st = some l → l.length ≤ n

/-! ## A reader: at block b; what is left lies in a block that is not its own, below 'top'. -/
structure Rd (w : World) (top b : Nat) (l : List UInt8) (e : Int) : Prop where
  lt : b < top
  le : top ≤ w.heap.size
  ex : ∃ ao c, w.heap[b]? = some (.cells #[.slice ao l.length c, .int .i64 e] 103 (0, 0)) ∧ l.length ≤ c ∧ (0 < c → ∃ g o, ao = some ⟨g, o, none⟩ ∧ g ≠ b ∧ g < top ∧ ∀ j (hj : j < l.length), w.cell? ⟨g, o + j, none⟩ = some (.int .u8 (l[j]).toNat))
  fail : e ≠ 0 → l = []
theorem Rd.same {w w' : World} {top b : Nat} {l : List UInt8} {e : Int} (h : Rd w top b l e) (hs : w.heap.size ≤ w'.heap.size) (hb : ∀ k, k < top → w'.heap[k]? = w.heap[k]?) : Rd w' top b l e := by
  obtain ⟨ao, c, h1, h2, h3⟩ := h.ex
  refine ⟨h.lt, Nat.le_trans h.le hs, ⟨ao, c, (hb b h.lt).trans h1, h2, fun hc => ?_⟩, h.fail⟩
  obtain ⟨g, o, ha, hg, hgt, hcell⟩ := h3 hc
  exact ⟨g, o, ha, hg, hgt, fun j hj => (World.cell?_of_block (w := w) (hb g hgt)).trans (hcell j hj)⟩
theorem Rd.kept {w w' : World} {top b base r : Nat} {l : List UInt8} {e : Int} (h : Rd w top b l e) (k : Kept base r w w') (hB : top ≤ base) (hr : top ≤ r) : Rd w' top b l e :=
  h.same k.size (fun i hi => k.block i (by omega) (by omega))

theorem Rd.alloc {w : World} {top b : Nat} {l : List UInt8} {e : Int} (h : Rd w top b l e) (o : Obj) : Rd (w.alloc o) top b l e :=
  h.same (by simp) (fun k hk => Below.heap_alloc _ _ _ (by have := h.le; omega))

theorem Rd.drew {w : World} {top b : Nat} {l : List UInt8} {e : Int} (h : Rd w top b l e) : Rd w.drew top b l e := h.same (Nat.le_refl _) (fun _ _ => rfl)
theorem Tab.drew {w : World} (h : Tab w) : Tab w.drew := h.same rfl
theorem Kept.ofDrew {base b : Nat} {w w' : World} (h : Kept base b w.drew w') : Kept base b w w' := ⟨h.os, h.tape, h.output, h.size, h.block⟩

/-- Bytes that a slice shows, in a block that is not b. -/
def Shows (w : World) (b : Nat) (ao : Option Addr) (l : List UInt8) : Prop := 0 < l.length → ∃ g o, ao = some ⟨g, o, none⟩ ∧ g ≠ b ∧ g < w.heap.size ∧ ∀ j (hj : j < l.length), w.cell? ⟨g, o + j, none⟩ = some (.int .u8 (l[j]).toNat)

end Go.Proofs.YtcoljiopnfgjaaaDoor
