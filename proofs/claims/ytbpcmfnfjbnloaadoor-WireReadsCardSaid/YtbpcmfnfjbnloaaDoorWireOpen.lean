/-
  Opening what comes in: a digest, a thing, a slice of things.
-/
import Derived.Test.YtbpcmfnfjbnloaaDoorWireLaid
import Derived.Test.YtbpcmfnfjbnloaaDoorWireThing
import Derived.Deep.Slices
namespace Go.Proofs.YtbpcmfnfjbnloaaDoor
open Go.ChangeShapes Go.WideShapes Go.ChangeAt Go.RowKit Go.Deep

theorem wireInfo32 : (Tryd.prog.info? 32).map (·.size) = some 36 := by kernel_rfl
theorem wireCells5 : Tryd.prog.cellsOf 5 = 1 := by kernel_rfl
theorem wireCells9 : Tryd.prog.cellsOf 9 = 1 := by kernel_rfl
theorem wireCells4 : Tryd.prog.cellsOf 4 = 1 := by kernel_rfl
theorem wireCells30 : Tryd.prog.cellsOf 30 = 32 := by kernel_rfl
theorem wireCells32 : Tryd.prog.cellsOf 32 = 36 := by kernel_rfl

section
variable {H : Type} {enc : TypeId × Value → H} {w : World} {base : Nat} {spare : Nat → Bool} {held : Bool}

theorem one_at (cs : List Value) (i : Nat) (v : Value) (h : (cs.drop i).take 1 = [v]) : cs[i]? = some v := by
  have : ((cs.drop i).take 1)[0]? = some v := by rw [h]; rfl
  simpa using this

theorem open_hash {fuel : Nat} {cs : List Value} {x : DataW H × List MemPlace} (h : DataW.trod enc Tryd.prog w base spare held fuel 30 cs = some x) : ∃ l : List UInt8, l.length = 32 ∧ cs = bcells l := by
  obtain ⟨xs, m, _, _, hl, hn, hel⟩ := DataW.trod_array Tryd.underlying30 h
  rw [wireCells30] at hl
  have key : ∀ i, i < 32 → ∃ c : UInt8, cs[i]? = some (.int .u8 c.toNat) := fun i hi => by
    have h1 := hel i hi
    rw [wireCells5, Nat.mul_one, List.getElem?_eq_getElem (by omega)] at h1
    obtain ⟨n, h2, _, h3⟩ := DataW.trod_int Tryd.underlying5 h1
    have hw := bounds_u8 h3
    refine ⟨UInt8.ofNat n.toNat, ?_⟩
    rw [one_at _ _ _ h2, UInt8.toNat_ofNat']
    congr 2
    omega
  obtain ⟨f, hf⟩ := choose_lt (α := UInt8) key
  refine ⟨(List.range 32).map f, by simp, ?_⟩
  apply List.ext_getElem?
  intro i
  by_cases hi : i < 32
  · rw [hf i hi]
    simp [bcells, hi]
  · rw [List.getElem?_eq_none (by omega), List.getElem?_eq_none (by simp [bcells]; omega)]

theorem open_thing {fuel : Nat} {cs : List Value} {x : DataW H × List MemPlace} (h : DataW.trod enc Tryd.prog w base spare held fuel 32 cs = some x) : ∃ t : Th, t.Ok ∧ cs = t.cells := by
  obtain ⟨xs, n, _, _, hl, hn, hel⟩ := DataW.trod_struct Tryd.underlying32 h
  rw [wireCells32] at hl
  have hn5 : xs.length = 5 := hn
  have h0 : DataW.trod enc Tryd.prog w base spare held n 5 ((cs.drop 0).take (Tryd.prog.cellsOf 5)) = xs[0]? := hel 0 _ rfl
  rw [wireCells5, List.getElem?_eq_getElem (by omega)] at h0
  have h1 : DataW.trod enc Tryd.prog w base spare held n 3 ((cs.drop 1).take (Tryd.prog.cellsOf 3)) = xs[1]? := hel 1 _ rfl
  rw [wireCellsInt, List.getElem?_eq_getElem (by omega)] at h1
  have h2 : DataW.trod enc Tryd.prog w base spare held n 9 ((cs.drop 2).take (Tryd.prog.cellsOf 9)) = xs[2]? := hel 2 _ rfl
  rw [wireCells9, List.getElem?_eq_getElem (by omega)] at h2
  have h3 : DataW.trod enc Tryd.prog w base spare held n 30 ((cs.drop 3).take (Tryd.prog.cellsOf 30)) = xs[3]? := hel 3 _ rfl
  rw [wireCells30, List.getElem?_eq_getElem (by omega)] at h3
  have h4 : DataW.trod enc Tryd.prog w base spare held n 4 ((cs.drop 35).take (Tryd.prog.cellsOf 4)) = xs[4]? := hel 4 _ rfl
  rw [wireCells4, List.getElem?_eq_getElem (by omega)] at h4
  obtain ⟨k, e0, _, wk⟩ := DataW.trod_int Tryd.underlying5 h0
  obtain ⟨m, e1, _, wm⟩ := DataW.trod_int Tryd.underlying3 h1
  obtain ⟨s, e2, _, ws⟩ := DataW.trod_string Tryd.underlying9 h2
  obtain ⟨l, hl32, e3⟩ := open_hash h3
  obtain ⟨b, e4, _⟩ := DataW.trod_bool Tryd.underlying4 h4
  have hk := bounds_u8 wk
  refine ⟨⟨k.toNat, m, s, l, b⟩, ⟨by show k.toNat < 256; omega, ws, hl32⟩, ?_⟩
  have d0 := one_at _ _ _ e0
  have d1 := one_at _ _ _ e1
  have d2 := one_at _ _ _ e2
  have d4 := one_at _ _ _ e4
  have ek : ((k.toNat : Nat) : Int) = k := by omega
  apply List.ext_getElem?
  intro i
  show cs[i]? = (Value.int .u8 (k.toNat : Int) :: .int .i64 m :: .string s :: (bcells l ++ [.bool b]))[i]?
  rw [ek]
  have hbl : (bcells l).length = 32 := by rw [bcells_length, hl32]
  match i with
  | 0 => rw [d0]; rfl
  | 1 => rw [d1]; rfl
  | 2 => rw [d2]; rfl
  | j + 3 =>
    simp only [List.getElem?_cons_succ]
    by_cases hj : j < 32
    · rw [List.getElem?_append_left (by omega), ← e3, List.getElem?_take, if_pos hj, List.getElem?_drop, Nat.add_comm]
    · by_cases hj2 : j = 32
      · subst hj2
        rw [List.getElem?_append_right (by omega), hbl]
        exact d4
      · rw [List.getElem?_eq_none (by omega), List.getElem?_eq_none (by simp; omega)]

instance : Inhabited Th := ⟨⟨0, 0, ByteArray.empty, [], false⟩⟩

/-- A slice of things: its length, and what each is. -/
structure Things (w : World) (v : Value) (len : Nat) (T : Nat → Th) : Prop where
  lenLe : len ≤ 9223372036854775807
  ok : ∀ i, i < len → (T i).Ok
  ex : ∃ ao cap, v = .slice ao len cap ∧ (0 < len → ∃ g o, ao = some ⟨g, o, none⟩ ∧ g < w.heap.size ∧ ∀ i, i < len → w.rangeAt g (o + i * 36) (T i).cells)

theorem open_things {v : Value} {d : DataW H} {p : List MemPlace} (hv : ∃ ao len cap, v = .slice ao len cap) (h : DataW.Trod enc Tryd.prog w 0 (fun _ => true) true 22 v d p) : ∃ len T, Things w v len T := by
  obtain ⟨ao, len, cap, rfl⟩ := hv
  obtain ⟨fuel, hf⟩ := h
  rcases open_slice Tryd.underlying22 hf with ⟨hcs, _⟩ | ⟨a, len', cap', m, n, D, Pl, hcs, _, hl, hm, hmm, _, hel⟩
  · simp [Value.cells] at hcs
    obtain ⟨rfl, rfl, rfl⟩ := hcs
    exact ⟨0, fun _ => default, by omega, fun i hi => absurd hi (Nat.not_lt_zero _), none, 0, rfl, fun h => absurd h (Nat.lt_irrefl _)⟩
  · simp [Value.cells] at hcs
    obtain ⟨rfl, rfl, rfl⟩ := hcs
    rw [wireCells32] at hel
    simp at hmm
    subst hmm
    obtain ⟨T, hT⟩ := choose_lt (α := Th) (n := len) (p := fun i t => t.Ok ∧ w.cells? 0 (a.add (i * 36)) 36 = some t.cells) (fun i hi => by
      obtain ⟨cs', h1, h2⟩ := hel i (by omega)
      obtain ⟨t, ht, rfl⟩ := open_thing h2
      exact ⟨t, ht, h1⟩)
    refine ⟨len, T, by unfold maxLen at hm; omega, fun i hi => (hT i hi).1, some a, _, rfl, fun hpos => ?_⟩
    have hcell : ∀ i, i < len → ∀ j, j < 36 → w.cell? ((a.add (i * 36)).add j) = (T i).cells[j]? := fun i hi => (World.cells?_some (hT i hi).2).2.2
    have h00 := hcell 0 hpos 0 (by omega)
    obtain ⟨g, o, spot⟩ := a
    rw [List.getElem?_eq_getElem (by rw [(T 0).cells_length (hT 0 hpos).1]; omega)] at h00
    have hspot : spot = none := by simpa [Addr.add] using World.cell?_spot h00
    subst hspot
    refine ⟨g, o, rfl, ?_, fun i hi j v hv => ?_⟩
    · have := World.block_lt_of_cell? _ _ h00
      simpa [Addr.add_lit] using this
    · have hj : j < 36 := by
        have := (List.getElem?_eq_some_iff.1 hv).1
        rwa [(T i).cells_length (hT i hi).1] at this
      have := hcell i hi j hj
      rw [Addr.add_lit, Addr.add_lit, hv] at this
      exact this
end
end Go.Proofs.YtbpcmfnfjbnloaaDoor
