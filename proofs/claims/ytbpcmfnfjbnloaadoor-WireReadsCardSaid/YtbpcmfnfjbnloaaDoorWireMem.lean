/-
  Memory: what stays behind a call that writes one block and new ones alone; a block of two cells; what a writer and a reader are in memory. No operation of the program is named here.
-/
import Derived.WalkKit
import Derived.Deep.Draws
import Derived.Test.YtbpcmfnfjbnloaaDoorWireMath
namespace Go.Proofs.YtbpcmfnfjbnloaaDoor
open Go.RowKit

/-- Below block number 'base' nothing but block b has turned. (b = base: nothing at all.) -/
structure Kept (base b : Nat) (w w' : World) : Prop where
  os : w'.os = w.os
  tape : w'.tape = w.tape
  output : w'.output = w.output
  size : w.heap.size ≤ w'.heap.size
  block : ∀ k, k < base → k ≠ b → w'.heap[k]? = w.heap[k]?

theorem Kept.refl (base b : Nat) (w : World) : Kept base b w w := ⟨rfl, rfl, rfl, Nat.le_refl _, fun _ _ _ => rfl⟩
theorem Kept.trans {base b : Nat} {w1 w2 w3 : World} (h : Kept base b w1 w2) (k : Kept base b w2 w3) : Kept base b w1 w3 :=
  ⟨k.os.trans h.os, k.tape.trans h.tape, k.output.trans h.output, Nat.le_trans h.size k.size, fun i hi hb => (k.block i hi hb).trans (h.block i hi hb)⟩
theorem Kept.drew {base b : Nat} {w1 w : World} (h : Kept base b w1 w) : Kept base b w1 w.drew := ⟨h.os, h.tape, h.output, h.size, h.block⟩
theorem Kept.drewN {base b : Nat} {w1 w : World} (h : Kept base b w1 w) (n : Nat) : Kept base b w1 (w.drewN n) := ⟨h.os, h.tape, h.output, h.size, h.block⟩
theorem Kept.mono {base b base' b' : Nat} {w w' : World} (h : Kept base b w w') (h1 : base' ≤ base) (h2 : ∀ k, k < base' → k ≠ b' → k ≠ b) : Kept base' b' w w' :=
  ⟨h.os, h.tape, h.output, h.size, fun k hk hb => h.block k (Nat.lt_of_lt_of_le hk h1) (h2 k hk hb)⟩
theorem Kept.alloc {base b : Nat} {w1 w : World} (h : Kept base b w1 w) (hB : base ≤ w.heap.size) (o : Obj) : Kept base b w1 (w.alloc o) :=
  h.trans ⟨rfl, rfl, rfl, by simp, fun k hk _ => Below.heap_alloc _ _ _ (by omega)⟩
theorem Kept.setCell {base b : Nat} {w1 w : World} (h : Kept base b w1 w) {p : Addr} (hp : p.block = b ∨ base ≤ p.block) (u : Value) : Kept base b w1 (w.setCell p u) :=
  h.trans ⟨rfl, rfl, rfl, by simp [World.setCell], fun k hk hb => Below.heap_setCell _ _ _ _ (by omega)⟩
theorem Kept.set {base b : Nat} {w1 w : World} (h : Kept base b w1 w) {b' : Nat} (hp : b' = b ∨ base ≤ b') (o : Nat) (u : Value) : Kept base b w1 (w.setCell ⟨b', o, none⟩ u) := h.setCell hp u
theorem Kept.grown {base b : Nat} {w1 w w2 : World} {row : Option Nat} (h : Kept base b w1 w) (hg : w.grownBy w2 row) (hB : base ≤ w.heap.size) (hr : ∀ k, row = some k → base ≤ k) : Kept base b w1 w2 :=
  h.trans ⟨hg.os, hg.tape, hg.output, hg.size, fun k hk _ => hg.block k (by omega) (fun e => by have := hr k e.symm; omega)⟩
theorem Kept.below {base b B : Nat} {w w' : World} (h : Kept base b w w') (h1 : B ≤ base) (h2 : B ≤ b) : Below B w w' :=
  ⟨h.os, h.tape, h.output, h.size, fun k hk => h.block k (by omega) (by omega)⟩
theorem Kept.ofBelow {base b B : Nat} {w w' : World} (h : Below B w w') (h1 : base ≤ B) : Kept base b w w' :=
  ⟨h.os, h.tape, h.output, h.size, fun k hk _ => h.block k (by omega)⟩
theorem Kept.cell {base b : Nat} {w w' : World} (h : Kept base b w w') {p : Addr} (hp : p.block < base) (hb : p.block ≠ b) : w'.cell? p = w.cell? p := World.cell?_of_block (w := w) (h.block p.block hp hb)
theorem Kept.frozen {base b : Nat} {w w' : World} (h : Kept base b w w') {p : Addr} (hp : p.block < base) (hb : p.block ≠ b) : w'.frozen? p = w.frozen? p := World.frozen?_of_block (w := w) (h.block p.block hp hb)

/-- What is neither block b nor a row of bytes has not turned. -/
def Fr (b : Nat) (w w' : World) : Prop := ∀ k o, w.heap[k]? = some o → k ≠ b → (∀ cs fr, o ≠ .cells cs 5 fr) → w'.heap[k]? = some o
theorem Fr.refl (b : Nat) (w : World) : Fr b w w := fun _ _ h _ _ => h
theorem Fr.trans {b : Nat} {w1 w2 w3 : World} (h : Fr b w1 w2) (k : Fr b w2 w3) : Fr b w1 w3 := fun i o h1 h2 h3 => k i o (h i o h1 h2 h3) h2 h3
theorem Fr.alloc {b : Nat} {w1 w : World} (h : Fr b w1 w) (o : Obj) : Fr b w1 (w.alloc o) := fun i x h1 h2 h3 => by
  have h4 := h i x h1 h2 h3
  rw [Below.heap_alloc _ _ _ (lt_of_block h4)]
  exact h4
theorem Fr.drew {b : Nat} {w1 w : World} (h : Fr b w1 w) : Fr b w1 w.drew := h
theorem Fr.set {b : Nat} {w1 w : World} (h : Fr b w1 w) (o : Nat) (u : Value) : Fr b w1 (w.setCell ⟨b, o, none⟩ u) := fun i x h1 h2 h3 => by
  rw [Below.heap_setCell _ _ _ _ h2]
  exact h i x h1 h2 h3
theorem Fr.grown {b : Nat} {w1 w w2 : World} {base n : Nat} {v : Value} {xs : List Value} (h : Fr b w1 w) (hown : w.ownsRow base 5 1 v n xs) (hg : w.grownBy w2 v.ownBlock) : Fr b w1 w2 := fun i x h1 h2 h3 => by
  have h4 := h i x h1 h2 h3
  rw [hg.block i (lt_of_block h4) (fun e => ?_)]
  · exact h4
  · rcases hown.2 with ⟨rfl, _⟩ | ⟨g, cap, cur, rfl, _, hh, _⟩
    · simp [Value.ownBlock] at e
    · simp [Value.ownBlock] at e
      subst e
      rw [hh] at h4
      cases h4
      exact h3 _ _ rfl

/-! ## A block of two cells. -/
theorem two_cell0 {w : World} {b : Nat} {x y : Value} {t : TypeId} (h : w.heap[b]? = some (.cells #[x, y] t (0, 0))) : w.cell? ⟨b, 0, none⟩ = some x := by simp [World.cell?, h]
theorem two_cell1 {w : World} {b : Nat} {x y : Value} {t : TypeId} (h : w.heap[b]? = some (.cells #[x, y] t (0, 0))) : w.cell? ⟨b, 1, none⟩ = some y := by simp [World.cell?, h]
theorem two_free {w : World} {b : Nat} {x y : Value} {t : TypeId} (h : w.heap[b]? = some (.cells #[x, y] t (0, 0))) (j : Nat) : w.frozen? ⟨b, j, none⟩ = false := by simp [World.frozen?, h]
theorem two_set0 {w : World} {b : Nat} {x y u : Value} {t : TypeId} (h : w.heap[b]? = some (.cells #[x, y] t (0, 0))) : (w.setCell ⟨b, 0, none⟩ u).heap[b]? = some (.cells #[u, y] t (0, 0)) := by
  have hlt := lt_of_block h
  have h' : w.heap[b] = .cells #[x, y] t (0, 0) := by simpa [Array.getElem?_eq_getElem hlt] using h
  show (w.heap.modify b _)[b]? = _
  rw [Array.getElem?_eq_getElem (by simpa using hlt), Array.getElem_modify_self, h']
  rfl
theorem two_set1 {w : World} {b : Nat} {x y u : Value} {t : TypeId} (h : w.heap[b]? = some (.cells #[x, y] t (0, 0))) : (w.setCell ⟨b, 1, none⟩ u).heap[b]? = some (.cells #[x, u] t (0, 0)) := by
  have hlt := lt_of_block h
  have h' : w.heap[b] = .cells #[x, y] t (0, 0) := by simpa [Array.getElem?_eq_getElem hlt] using h
  show (w.heap.modify b _)[b]? = _
  rw [Array.getElem?_eq_getElem (by simpa using hlt), Array.getElem_modify_self, h']
  rfl
theorem heap_new (w : World) (o : Obj) : (w.alloc o).heap[w.heap.size]? = some o := by
  show (w.heap.push o)[w.heap.size]? = _
  simp

/-! ## Bytes as cells. -/
def bcells (l : List UInt8) : List Value := l.map fun c => Value.int .u8 c.toNat
theorem bcells_length (l : List UInt8) : (bcells l).length = l.length := by simp [bcells]
theorem bcells_append (a b : List UInt8) : bcells (a ++ b) = bcells a ++ bcells b := by simp [bcells]
theorem bcells_one (l : List UInt8) : ∀ u ∈ bcells l, u.oneCell' = true := by
  intro u hu
  simp only [bcells, List.mem_map] at hu
  obtain ⟨c, _, rfl⟩ := hu
  rfl
theorem bcells_get (l : List UInt8) (j : Nat) (hj : j < l.length) : (bcells l)[j]? = some (.int .u8 (l[j]).toNat) := by simp [bcells, hj]
/-- A string of given bytes. -/
abbrev str (l : List UInt8) : ByteArray := ⟨l.toArray⟩

/-! ## The table of the four bounds: block 0. -/
structure Tab (w : World) : Prop where
  c0 : w.cell? ⟨0, 0, none⟩ = some (.int .i64 63)
  c1 : w.cell? ⟨0, 1, none⟩ = some (.int .i64 16383)
  c2 : w.cell? ⟨0, 2, none⟩ = some (.int .i64 1073741823)
  c3 : w.cell? ⟨0, 3, none⟩ = some (.int .i64 4611686018427387903)
theorem Tab.lt {w : World} (h : Tab w) : 0 < w.heap.size := World.block_lt_of_cell? _ _ h.c0
theorem Tab.same {w w' : World} (h : Tab w) (e : w'.heap[0]? = w.heap[0]?) : Tab w' :=
  ⟨(World.cell?_of_block (w := w) e).trans h.c0, (World.cell?_of_block (w := w) e).trans h.c1, (World.cell?_of_block (w := w) e).trans h.c2, (World.cell?_of_block (w := w) e).trans h.c3⟩
theorem Tab.kept {base b : Nat} {w w' : World} (h : Tab w) (k : Kept base b w w') (h1 : 0 < base) (h2 : 0 < b) : Tab w' := h.same (k.block 0 h1 (by omega))
theorem Tab.at {w : World} (h : Tab w) (k : Nat) (hk : k < 4) : w.cell? ⟨0, k, none⟩ = some (.int .i64 (Wm.bnd k)) := by
  match k, hk with
  | 0, _ => exact h.c0
  | 1, _ => exact h.c1
  | 2, _ => exact h.c2
  | 3, _ => exact h.c3

/-! ## A writer: at block b, below 'base'; its bytes in a row of its own from 'base' on. -/
structure WrOk (w : World) (base b : Nat) (l : List UInt8) : Prop where
  lt : b < base
  le : base ≤ w.heap.size
  ex : ∃ a n c, w.heap[b]? = some (.cells #[.slice a n c, .bool false] 65 (0, 0)) ∧ w.ownsRow base 5 1 (.slice a n c) l.length (bcells l)
structure WrBad (w : World) (base b : Nat) : Prop where
  lt : b < base
  le : base ≤ w.heap.size
  ex : ∃ a n c, w.heap[b]? = some (.cells #[.slice a n c, .bool true] 65 (0, 0))
/-- none: it is spoilt. -/
def Wr (w : World) (base b : Nat) : Option (List UInt8) → Prop
  | some l => WrOk w base b l
  | none => WrBad w base b

theorem Wr.lt {w : World} {base b : Nat} {st : Option (List UInt8)} (h : Wr w base b st) : b < base := by
  cases st
  · exact WrBad.lt h
  · exact WrOk.lt h
theorem Wr.le {w : World} {base b : Nat} {st : Option (List UInt8)} (h : Wr w base b st) : base ≤ w.heap.size := by
  cases st
  · exact WrBad.le h
  · exact WrOk.le h

/-- It stays as long as its own blocks do. -/
theorem Wr.same {w w' : World} {base b : Nat} {st : Option (List UInt8)} (h : Wr w base b st) (hs : w.heap.size ≤ w'.heap.size) (hb : w'.heap[b]? = w.heap[b]?) (hr : ∀ k, base ≤ k → k < w.heap.size → w'.heap[k]? = w.heap[k]?) : Wr w' base b st := by
  cases st with
  | none =>
    obtain ⟨a, n, c, h1⟩ := WrBad.ex h
    exact (⟨WrBad.lt h, Nat.le_trans (WrBad.le h) hs, a, n, c, hb.trans h1⟩ : WrBad w' base b)
  | some l =>
    obtain ⟨a, n, c, h1, h2⟩ := WrOk.ex h
    refine (⟨WrOk.lt h, Nat.le_trans (WrOk.le h) hs, a, n, c, hb.trans h1, h2.1, ?_⟩ : WrOk w' base b l)
    rcases h2.2 with h3 | ⟨g, cap, cur, hv, hg, hh, rest⟩
    · exact .inl h3
    · exact .inr ⟨g, cap, cur, hv, hg, (hr g hg (lt_of_block hh)).trans hh, rest⟩
theorem Wr.kept {w w' : World} {base b B r : Nat} {st : Option (List UInt8)} (h : Wr w base b st) (k : Kept B r w w') (hB : w.heap.size ≤ B) (hr : r < base) (hb : r ≠ b) : Wr w' base b st :=
  h.same k.size (k.block b (by have := h.lt; have := h.le; omega) (fun e => hb e.symm)) (fun i h1 h2 => k.block i (by omega) (by omega))
theorem Wr.drew {w : World} {base b : Nat} {st : Option (List UInt8)} (h : Wr w base b st) : Wr w.drew base b st := h.same (Nat.le_refl _) rfl (fun _ _ _ => rfl)
theorem Wr.alloc {w : World} {base b : Nat} {st : Option (List UInt8)} (h : Wr w base b st) (o : Obj) : Wr (w.alloc o) base b st :=
  h.same (by simp) (Below.heap_alloc _ _ _ (by have := h.lt; have := h.le; omega)) (fun k _ hk => Below.heap_alloc _ _ _ hk)

/-- A writer by its pointer: it may be nil (b = base then: nothing is written). -/
def WrV (w : World) (base b : Nat) (p : Value) (st : Option (List UInt8)) : Prop :=
  (p = .pointer none ∧ b = base ∧ base ≤ w.heap.size ∧ st = none) ∨ (p = .pointer (some ⟨b, 0, none⟩) ∧ Wr w base b st)
theorem WrV.le {w : World} {base b : Nat} {p : Value} {st : Option (List UInt8)} (h : WrV w base b p st) : base ≤ w.heap.size := by
  rcases h with ⟨_, _, h, _⟩ | ⟨_, h⟩
  · exact h
  · exact h.le
theorem WrV.alloc {w : World} {base b : Nat} {p : Value} {st : Option (List UInt8)} (h : WrV w base b p st) (o : Obj) : WrV (w.alloc o) base b p st := by
  rcases h with ⟨h1, h2, h3, h4⟩ | ⟨h1, h⟩
  · exact .inl ⟨h1, h2, by simp; omega, h4⟩
  · exact .inr ⟨h1, h.alloc o⟩
theorem WrV.drew {w : World} {base b : Nat} {p : Value} {st : Option (List UInt8)} (h : WrV w base b p st) : WrV w.drew base b p st := by
  rcases h with ⟨h1, h2, h3, h4⟩ | ⟨h1, h⟩
  · exact .inl ⟨h1, h2, h3, h4⟩
  · exact .inr ⟨h1, h.drew⟩

/-! ## What the writer's calls make of its bytes (none: it is spoilt). -/
def pNum (st : Option (List UInt8)) (n : Int) : Option (List UInt8) := if 0 ≤ n ∧ n ≤ 4611686018427387903 then st.map (· ++ Wm.enc n.toNat) else none
def pText (st : Option (List UInt8)) (s : List UInt8) : Option (List UInt8) := if s.length ≤ 65536 then st.map (· ++ (Wm.enc s.length ++ s)) else none
def pRaw (st : Option (List UInt8)) (s : List UInt8) : Option (List UInt8) := st.map (· ++ s)
/-- It has so many bytes at most. -/
def Short (st : Option (List UInt8)) (n : Nat) : Prop := ∀ l, st = some l → l.length ≤ n

/-! ## A reader: at block b; what is left lies in a block that is not its own, below 'top'. -/
structure Rd (w : World) (top b : Nat) (l : List UInt8) (e : Int) : Prop where
  lt : b < top
  le : top ≤ w.heap.size
  ex : ∃ ao c, w.heap[b]? = some (.cells #[.slice ao l.length c, .int .i64 e] 69 (0, 0)) ∧ l.length ≤ c ∧ (0 < c → ∃ g o, ao = some ⟨g, o, none⟩ ∧ g ≠ b ∧ g < top ∧ ∀ j (hj : j < l.length), w.cell? ⟨g, o + j, none⟩ = some (.int .u8 (l[j]).toNat))
  fail : e ≠ 0 → l = []
theorem Rd.same {w w' : World} {top b : Nat} {l : List UInt8} {e : Int} (h : Rd w top b l e) (hs : w.heap.size ≤ w'.heap.size) (hb : ∀ k, k < top → w'.heap[k]? = w.heap[k]?) : Rd w' top b l e := by
  obtain ⟨ao, c, h1, h2, h3⟩ := h.ex
  refine ⟨h.lt, Nat.le_trans h.le hs, ⟨ao, c, (hb b h.lt).trans h1, h2, fun hc => ?_⟩, h.fail⟩
  obtain ⟨g, o, ha, hg, hgt, hcell⟩ := h3 hc
  exact ⟨g, o, ha, hg, hgt, fun j hj => (World.cell?_of_block (w := w) (hb g hgt)).trans (hcell j hj)⟩
theorem Rd.kept {w w' : World} {top b base r : Nat} {l : List UInt8} {e : Int} (h : Rd w top b l e) (k : Kept base r w w') (hB : top ≤ base) (hr : top ≤ r) : Rd w' top b l e :=
  h.same k.size (fun i hi => k.block i (by omega) (by omega))

theorem Rd.alloc {w : World} {top b : Nat} {l : List UInt8} {e : Int} (h : Rd w top b l e) (o : Obj) : Rd (w.alloc o) top b l e :=
  h.same (by simp) (fun k hk => Below.heap_alloc _ _ _ (by have := h.le; omega))

theorem Rd.drew {w : World} {top b : Nat} {l : List UInt8} {e : Int} (h : Rd w top b l e) : Rd w.drew top b l e := h.same (Nat.le_refl _) (fun _ _ => rfl)
theorem Tab.drew {w : World} (h : Tab w) : Tab w.drew := h.same rfl
theorem Kept.ofDrew {base b : Nat} {w w' : World} (h : Kept base b w.drew w') : Kept base b w w' := ⟨h.os, h.tape, h.output, h.size, h.block⟩

/-- Bytes that a slice shows, in a block that is not b. -/
def Shows (w : World) (b : Nat) (ao : Option Addr) (l : List UInt8) : Prop := 0 < l.length → ∃ g o, ao = some ⟨g, o, none⟩ ∧ g ≠ b ∧ g < w.heap.size ∧ ∀ j (hj : j < l.length), w.cell? ⟨g, o + j, none⟩ = some (.int .u8 (l[j]).toNat)

end Go.Proofs.YtbpcmfnfjbnloaaDoor
