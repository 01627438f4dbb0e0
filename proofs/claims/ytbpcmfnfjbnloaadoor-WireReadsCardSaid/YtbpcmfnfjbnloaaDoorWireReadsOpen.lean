/-
  Opening a slice of takings that comes in.
-/
import Derived.Test.YtbpcmfnfjbnloaaDoorWireLaid
import Derived.Test.YtbpcmfnfjbnloaaDoorWireReadsLaw
namespace Go.Proofs.YtbpcmfnfjbnloaaDoor
open Go.ChangeShapes Go.WideShapes Go.ChangeAt Go.RowKit Go.Deep

theorem wireCells43 : Tryd.prog.cellsOf 43 = 2 := by kernel_rfl

/-- A taking: what is asked, and a number. -/
structure Tk where
  k : Nat
  n : Int
instance : Inhabited Tk := ⟨⟨0, 0⟩⟩

section
variable {H : Type} {enc : TypeId × Value → H} {w : World} {base : Nat} {spare : Nat → Bool} {held : Bool}

theorem open_take {fuel : Nat} {cs : List Value} {x : DataW H × List MemPlace} (h : DataW.trod enc Tryd.prog w base spare held fuel 43 cs = some x) : ∃ t : Tk, t.k < 256 ∧ cs = [.int .u8 t.k, .int .i64 t.n] := by
  obtain ⟨xs, n, _, _, hl, hn, hel⟩ := DataW.trod_struct Tryd.underlying43 h
  rw [wireCells43] at hl
  have hn2 : xs.length = 2 := hn
  have h0 : DataW.trod enc Tryd.prog w base spare held n 5 ((cs.drop 0).take (Tryd.prog.cellsOf 5)) = xs[0]? := hel 0 _ rfl
  rw [wireCells5, List.getElem?_eq_getElem (by omega)] at h0
  have h1 : DataW.trod enc Tryd.prog w base spare held n 3 ((cs.drop 1).take (Tryd.prog.cellsOf 3)) = xs[1]? := hel 1 _ rfl
  rw [wireCellsInt, List.getElem?_eq_getElem (by omega)] at h1
  obtain ⟨k, e0, _, wk⟩ := DataW.trod_int Tryd.underlying5 h0
  obtain ⟨m, e1, _, wm⟩ := DataW.trod_int Tryd.underlying3 h1
  have hk := bounds_u8 wk
  refine ⟨⟨k.toNat, m⟩, by show k.toNat < 256; omega, ?_⟩
  have d0 := one_at _ _ _ e0
  have d1 := one_at _ _ _ e1
  have ek : ((k.toNat : Nat) : Int) = k := by omega
  apply List.ext_getElem?
  intro i
  show cs[i]? = ([Value.int .u8 (k.toNat : Int), .int .i64 m] : List Value)[i]?
  rw [ek]
  match i with
  | 0 => rw [d0]; rfl
  | 1 => rw [d1]; rfl
  | j + 2 => rw [List.getElem?_eq_none (by omega), List.getElem?_eq_none (by simp)]

theorem open_takes {v : Value} {d : DataW H} {p : List MemPlace} (hv : ∃ ao len cap, v = .slice ao len cap) (h : DataW.Trod enc Tryd.prog w 0 (fun _ => true) true 36 v d p) : ∃ len K N, Takes w v len K N := by
  obtain ⟨ao, len, cap, rfl⟩ := hv
  obtain ⟨fuel, hf⟩ := h
  rcases open_slice Tryd.underlying36 hf with ⟨hcs, _⟩ | ⟨a, len', cap', m, n, D, Pl, hcs, _, hl, hm, hmm, _, hel⟩
  · simp [Value.cells] at hcs
    obtain ⟨rfl, rfl, rfl⟩ := hcs
    exact ⟨0, fun _ => 0, fun _ => 0, by omega, fun i hi => absurd hi (Nat.not_lt_zero _), none, 0, rfl, fun h => absurd h (Nat.lt_irrefl _)⟩
  · simp [Value.cells] at hcs
    obtain ⟨rfl, rfl, rfl⟩ := hcs
    rw [wireCells43] at hel
    simp at hmm
    subst hmm
    obtain ⟨T, hT⟩ := choose_lt (α := Tk) (n := len) (p := fun i t => t.k < 256 ∧ w.cells? 0 (a.add (i * 2)) 2 = some [.int .u8 t.k, .int .i64 t.n]) (fun i hi => by
      obtain ⟨cs', h1, h2⟩ := hel i (by omega)
      obtain ⟨t, ht, rfl⟩ := open_take h2
      exact ⟨t, ht, h1⟩)
    refine ⟨len, fun i => (T i).k, fun i => (T i).n, by unfold maxLen at hm; omega, fun i hi => (hT i hi).1, some a, _, rfl, fun hpos => ?_⟩
    have hcell : ∀ i, i < len → ∀ j, j < 2 → w.cell? ((a.add (i * 2)).add j) = ([Value.int .u8 (T i).k, .int .i64 (T i).n] : List Value)[j]? := fun i hi => (World.cells?_some (hT i hi).2).2.2
    have h00 := hcell 0 hpos 0 (by omega)
    obtain ⟨g, o, spot⟩ := a
    rw [List.getElem?_eq_getElem (by simp)] at h00
    have hspot : spot = none := by simpa [Addr.add] using World.cell?_spot h00
    subst hspot
    refine ⟨g, o, rfl, ?_, fun i hi j v hv => ?_⟩
    · have := World.block_lt_of_cell? _ _ h00
      simpa [Addr.add_lit] using this
    · have hj : j < 2 := by
        have := (List.getElem?_eq_some_iff.1 hv).1
        simpa using this
      have := hcell i hi j hj
      rw [Addr.add_lit, Addr.add_lit, hv] at this
      exact this
end
end Go.Proofs.YtbpcmfnfjbnloaaDoor
