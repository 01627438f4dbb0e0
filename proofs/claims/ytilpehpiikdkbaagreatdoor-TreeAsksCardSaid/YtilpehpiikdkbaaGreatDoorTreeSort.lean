/-
 Numbers sorted, and names as mathematics.
-/
import Derived.Test.YtilpehpiikdkbaaGreatDoorTreeCopied
import Derived.Test.YtilpehpiikdkbaaGreatDoorHK
import Derived.Test.YtilpehpiikdkbaaGreatDoorSortI

namespace Go.Proofs.YtilpehpiikdkbaaGreatDoor
open Go.RowKit Go.Lib

/-- Numbers, sorted. -/
def sortI (L : List Int) : List Int := L.mergeSort fun x y => decide (x ≤ y)
theorem sortI_length (L : List Int) : (sortI L).length = L.length := List.length_mergeSort L
theorem sort_ints (w : World) (base : Nat) (v : Value) (L : List Int) (h : Ints w base v L) (hn : L.length ≤ 100000) : Calls Tryz.prog 48 #[v] w fun e w' => e = .returned (.tuple #[]) ∧ Ints w' base v (sortI L) ∧ w.grownBy w' v.ownBlock := by
 have h0 := h
 rcases h.2 with ⟨rfl, hz⟩ | ⟨g, cap, cur, rfl, hb, hg, hnc, hcm, hcs, htk⟩
 ·obtain rfl := List.length_eq_zero_iff.1 hz
  refine (Tryz.slices_Sort_int_none none 0 w).mono ?_
  rintro e w' ⟨rfl, rfl⟩
  exact ⟨rfl, by rw [sortI, List.mergeSort_nil]; exact World.ownsRow_nil _ _ _ _, ⟨rfl, rfl, rfl, Nat.le_refl _, fun _ _ _ => rfl⟩⟩
 ·have hgl : g < w.heap.size := (World.ownsRow.lt h0 g rfl).2
  have hH : Go.Sort.Holds (Value.int .i64) w g 0 L.toArray := fun j hj => by
   have hj' : j < L.length := by simpa using hj
   rw [Nat.zero_add]
   have h1 := World.ownsRow.cellAt (show w.ownsRow base 3 1 (.slice (some ⟨g, 0, none⟩) L.length cap) L.length (L.map (Value.int .i64)) from h0) j (by omega)
   refine ⟨?_, World.ownsRow.frozenAt (show w.ownsRow base 3 1 (.slice (some ⟨g, 0, none⟩) L.length cap) L.length (L.map (Value.int .i64)) from h0) j⟩
   rw [h1, List.getElem?_map, List.getElem?_eq_getElem hj', getElem!_pos _ j hj]
   simp
  refine (Tryz.slices_Sort_int g 0 cap L w hH hgl (by omega)).mono ?_
  rintro e w' ⟨rfl, n, os, rfl⟩
  have hlen : (sortI L).length = L.length := sortI_length L
  have hg' : (Go.Sort.ahead w n).heap[g]? = some (.cells cur 3 (0, 0)) := hg
  have hms : ((Go.Sort.ahead w n).heap.modify g (Go.Sort.onCells (Go.Sort.putCells (Value.int .i64) 0 (sortI L).toArray))).size = w.heap.size := Array.size_modify ..
  have hblk : (Go.Sort.grow (Go.Sort.putRow (Value.int .i64) (Go.Sort.ahead w n) g 0 (sortI L).toArray) os).heap[g]? = some (.cells (Go.Sort.putCells (Value.int .i64) 0 (sortI L).toArray cur) 3 (0, 0)) := by
   show ((Go.Sort.ahead w n).heap.modify g (Go.Sort.onCells _) ++ os)[g]? = _
   rw [Array.getElem?_append_left (by rw [hms]; exact hgl), Array.getElem?_modify, if_pos rfl, hg']
   rfl
  refine ⟨rfl, ⟨by rw [List.length_map, Nat.mul_one], .inr ⟨g, cap, _, by rw [hlen], hb, hblk, by rw [hlen]; exact hnc, hcm, ?_, ?_⟩⟩, ?_⟩
  ·rw [← hcs]
   simp [Go.Sort.putCells]
  ·rw [hlen, Nat.mul_one]
   refine List.ext_getElem? fun j => ?_
   rcases Nat.lt_or_ge j L.length with hj | hj
   ·have hjs : j < (sortI L).length := by rw [hlen]; exact hj
    have hjc : j < cur.size := by rw [hcs]; omega
    rw [List.getElem?_map, List.getElem?_eq_getElem hjs, List.getElem?_take_of_lt hj, Array.getElem?_toList]
    simp only [Go.Sort.putCells, Array.getElem?_mapIdx, Array.getElem?_eq_getElem hjc, Option.map_some]
    rw [if_pos ⟨Nat.zero_le _, by simpa using hjs⟩, Nat.sub_zero, getElem!_pos _ j (by simpa using hjs)]
    simp
   ·rw [List.getElem?_eq_none (by rw [List.length_take]; omega), List.getElem?_eq_none (by rw [List.length_map, hlen]; exact hj)]
  ·refine ⟨rfl, rfl, rfl, ?_, fun k hk hne => ?_⟩
   ·show w.heap.size ≤ ((Go.Sort.ahead w n).heap.modify g (Go.Sort.onCells _) ++ os).size
    rw [Array.size_append, Array.size_modify]
    exact Nat.le_add_right _ _
   ·show ((Go.Sort.ahead w n).heap.modify g (Go.Sort.onCells _) ++ os)[k]? = _
    rw [Array.getElem?_append_left (by rw [Array.size_modify]; exact hk), Array.getElem?_modify, if_neg (by rintro rfl; exact hne rfl)]
    rfl
theorem append_int1 (w : World) (base : Nat) (v : Value) (L : List Int) (x : Int) (h : Ints w base v L) (b c : Nat) (hb : w.cell? ⟨b, 0, none⟩ = some (.int .i64 x)) (hn : L.length < 100000) (hbase : base ≤ w.heap.size) :
  ∃ v' w', (Builtin.append_ #[35, 35] 35 #[v, .slice (some ⟨b, 0, none⟩) 1 c]).run Tryz.prog w = .ok v' w' ∧ Ints w' base v' (L ++ [x]) ∧ w.grownBy w' v.ownBlock := by
 obtain ⟨i0, hi, hz0, hz1, hz2⟩ := info_parts intInfo
 obtain ⟨v', w', e1, e2, e3, _⟩ := run_append_own_at (P := Tryz.prog) (w := w) base 35 35 3 i0 (.int .i64 0) 1 8 Tryz.underlying35 hi hz0 hz1 hz2 rfl (by decide) v L.length (L.map (Value.int .i64)) h ⟨b, 0, none⟩ 1 c [.int .i64 x]
  rfl (fun j u hu => by
   rw [Addr.add_lit]
   match j, hu with
   | 0, hu => cases hu; exact hb) (fun u hu => by rw [List.mem_singleton.1 hu]; rfl) (by unfold maxLen; omega) (by omega) hbase
 refine ⟨v', w', e1, ?_, e3⟩
 unfold Ints
 rw [List.length_append, List.map_append]
 exact e2

namespace Tt
/-- The names, as they stand. -/
def names : List Lf → List Int
 | [] => []
 | l :: L => if l.name == 0 then names L else l.name :: names L
theorem names_snoc (l : Lf) : ∀ L, names (L ++ [l]) = if l.name == 0 then names L else names L ++ [l.name]
 | [] => by simp [names]
 | x :: L => by
  rw [List.cons_append, names, names_snoc l L, names]
  split <;> split <;> rfl
theorem names_length : ∀ L, (names L).length ≤ L.length
 | [] => Nat.le_refl _
 | l :: L => by
  have := names_length L
  rw [names]
  split
  ·exact Nat.le_succ_of_le this
  ·rw [List.length_cons, List.length_cons]; omega
theorem names_mem {y : Int} : ∀ {L : List Lf}, y ∈ names L ↔ y ≠ 0 ∧ ∃ l ∈ L, l.name = y
 | [] => by simp [names]
 | l :: L => by
  rw [names]
  by_cases h : l.name = 0
  ·have hb : (l.name == 0) = true := by rw [beq_iff_eq]; exact h
   rw [if_pos hb, names_mem]
   constructor
   ·rintro ⟨h1, x, h2, h3⟩
    exact ⟨h1, x, List.mem_cons_of_mem _ h2, h3⟩
   ·rintro ⟨h1, x, h2, h3⟩
    rcases List.mem_cons.1 h2 with rfl | h2
    ·exact absurd (h3.symm.trans h) h1
    ·exact ⟨h1, x, h2, h3⟩
  ·have hb : (l.name == 0) = false := by rw [beq_eq_false_iff_ne]; exact h
   rw [if_neg (by rw [hb]; decide), List.mem_cons, names_mem]
   constructor
   ·rintro (rfl | ⟨h1, x, h2, h3⟩)
    ·exact ⟨h, l, List.mem_cons_self .., rfl⟩
    ·exact ⟨h1, x, List.mem_cons_of_mem _ h2, h3⟩
   ·rintro ⟨h1, x, h2, h3⟩
    rcases List.mem_cons.1 h2 with rfl | h2
    ·exact .inl h3.symm
    ·exact .inr ⟨h1, x, h2, h3⟩
theorem leavesOk_names : ∀ (L : List Lf) (M : List Int), leavesOk M L = true → (names L).Nodup ∧ ∀ y ∈ names L, 1 ≤ y ∧ y ≤ 64 ∧ y ∉ M
 | [], _, _ => ⟨List.nodup_nil, fun _ h => nomatch h⟩
 | l :: L, M, h => by
  rw [leavesOk] at h
  rw [names]
  split at h
  ·rename_i hs
   have hz := Lf.same_iff.1 hs
   rw [if_pos (by rw [hz]; rfl)]
   exact leavesOk_names L M h
  ·simp only [Bool.and_eq_true, decide_eq_true_eq, Bool.not_eq_true'] at h
   obtain ⟨h1, h2, h3, h4⟩ := h
   rw [if_neg (by rw [beq_iff_eq]; omega)]
   obtain ⟨h5, h6⟩ := leavesOk_names L (l.name :: M) h4
   have h3' : l.name ∉ M := fun hm => by
    rw [List.contains_iff_mem.2 hm] at h3
    cases h3
   refine ⟨List.nodup_cons.2 ⟨fun hm => (h6 _ hm).2.2 (List.mem_cons_self ..), h5⟩, fun y hy => ?_⟩
   rcases List.mem_cons.1 hy with rfl | hy
   ·exact ⟨h1, h2, h3'⟩
   ·obtain ⟨a, b, c⟩ := h6 y hy
    exact ⟨a, b, fun hm => c (List.mem_cons_of_mem _ hm)⟩
/-- The names that the document says, up to a number. -/
def rnamesTo (L : List Lf) : Nat → List Int
 | 0 => []
 | k + 1 => if 0 ≤ rplace L ((k + 1 : Nat) : Int) then rnamesTo L k ++ [((k + 1 : Nat) : Int)] else rnamesTo L k
def rnames (L : List Lf) : List Int := rnamesTo L 64
theorem rnamesTo_length (L : List Lf) : ∀ k, (rnamesTo L k).length ≤ k
 | 0 => Nat.le_refl _
 | k + 1 => by
  have := rnamesTo_length L k
  rw [rnamesTo]
  split
  ·rw [List.length_append]; exact Nat.succ_le_succ this
  ·exact Nat.le_succ_of_le this
theorem rnamesTo_mem (L : List Lf) {y : Int} : ∀ k, y ∈ rnamesTo L k ↔ 1 ≤ y ∧ y ≤ (k : Int) ∧ 0 ≤ rplace L y
 | 0 => by
  simp only [rnamesTo, List.not_mem_nil, false_iff]
  intro h
  omega
 | k + 1 => by
  have ih := rnamesTo_mem L (y := y) k
  rw [rnamesTo]
  split
  ·rename_i h
   rw [List.mem_append, List.mem_singleton, ih]
   constructor
   ·rintro (⟨a, b, c⟩ | rfl)
    ·exact ⟨a, by omega, c⟩
    ·exact ⟨by omega, by omega, h⟩
   ·rintro ⟨a, b, c⟩
    by_cases hy : y = ((k + 1 : Nat) : Int)
    ·exact .inr hy
    ·exact .inl ⟨a, by omega, c⟩
  ·rename_i h
   rw [ih]
   constructor
   ·rintro ⟨a, b, c⟩
    exact ⟨a, by omega, c⟩
   ·rintro ⟨a, b, c⟩
    by_cases hy : y = ((k + 1 : Nat) : Int)
    ·rw [hy] at c
     exact absurd c h
    ·exact ⟨a, by omega, c⟩
theorem rnamesTo_rises (L : List Lf) : ∀ k, (rnamesTo L k).Pairwise (· < ·)
 | 0 => List.Pairwise.nil
 | k + 1 => by
  rw [rnamesTo]
  split
  ·rw [List.pairwise_append]
   refine ⟨rnamesTo_rises L k, List.pairwise_singleton _ _, fun a ha b hb => ?_⟩
   rw [List.mem_singleton.1 hb]
   have := ((rnamesTo_mem L k).1 ha).2.1
   omega
  ·exact rnamesTo_rises L k
theorem rising_one : ∀ (a b : List Int), a.Pairwise (· < ·) → b.Pairwise (· < ·) → (∀ x, x ∈ a ↔ x ∈ b) → a = b
 | [], [], _, _, _ => rfl
 | [], y :: b, _, _, h => by have := (h y).2 (List.mem_cons_self ..); cases this
 | x :: a, [], _, _, h => by have := (h x).1 (List.mem_cons_self ..); cases this
 | x :: a, y :: b, ha, hb, h => by
  obtain ⟨ha1, ha2⟩ := List.pairwise_cons.1 ha
  obtain ⟨hb1, hb2⟩ := List.pairwise_cons.1 hb
  have hxy : x = y := by
   rcases List.mem_cons.1 ((h x).1 (List.mem_cons_self ..)) with h1 | h1
   ·exact h1
   ·rcases List.mem_cons.1 ((h y).2 (List.mem_cons_self ..)) with h2 | h2
    ·exact h2.symm
    ·have := hb1 x h1
     have := ha1 y h2
     omega
  subst hxy
  rw [rising_one a b ha2 hb2 fun z => ?_]
  constructor
  ·intro hz
   rcases List.mem_cons.1 ((h z).1 (List.mem_cons_of_mem _ hz)) with rfl | h1
   ·have := ha1 z hz; omega
   ·exact h1
  ·intro hz
   rcases List.mem_cons.1 ((h z).2 (List.mem_cons_of_mem _ hz)) with rfl | h1
   ·have := hb1 z hz; omega
   ·exact h1
theorem index_there {L : List Lf} {y : Int} : 0 ≤ index L y ↔ ∃ l ∈ L, l.name = y := by
 unfold index
 cases h : L.findIdx? (fun l => l.name == y) with
 | none =>
  rw [List.findIdx?_eq_none_iff] at h
  constructor
  ·intro h1
   simp at h1
  ·rintro ⟨l, hl, h1⟩
   have := h l hl
   rw [beq_eq_false_iff_ne] at this
   exact absurd h1 this
 | some i =>
  rw [List.findIdx?_eq_some_iff_getElem] at h
  obtain ⟨hi, h1, _⟩ := h
  rw [beq_iff_eq] at h1
  constructor
  ·intro _
   exact ⟨_, List.getElem_mem hi, h1⟩
  ·intro _
   simp
/-- The landed names are the document's. -/
theorem names_same {L : List Lf} {P : List Pr} (h : right L P = true) : sortI (names L) = rnames L := by
 simp only [right, Bool.and_eq_true] at h
 obtain ⟨hnd, hb⟩ := leavesOk_names L [] h.2.2.2.1
 have hperm : (sortI (names L)).Perm (names L) := List.mergeSort_perm _ _
 have hp := List.pairwise_mergeSort (le := fun x y : Int => decide (x ≤ y)) (fun a b c h1 h2 => by
  simp only [decide_eq_true_eq] at h1 h2 ⊢
  omega) (fun a b => by
  simp only [Bool.or_eq_true, decide_eq_true_eq]
  omega) (names L)
 have hn2 : (sortI (names L)).Nodup := hperm.nodup_iff.2 hnd
 refine rising_one _ _ ?_ (rnamesTo_rises L 64) fun x => ?_
 ·have hp2 : (sortI (names L)).Pairwise (fun a b => decide (a ≤ b) = true) := hp
  refine (hp2.and hn2).imp fun h1 => ?_
  obtain ⟨h1, h2⟩ := h1
  have h1 := of_decide_eq_true h1
  have h2 : _ ≠ _ := h2
  omega
 ·rw [hperm.mem_iff]
  unfold rnames
  rw [rnamesTo_mem, names_mem]
  constructor
  ·rintro ⟨h1, h2⟩
   obtain ⟨h3, h4, _⟩ := hb x (names_mem.2 ⟨h1, h2⟩)
   refine ⟨h3, h4, ?_⟩
   rw [rplace, if_pos (by omega)]
   exact index_there.2 h2
  ·rintro ⟨h1, h2, h3⟩
   rw [rplace, if_pos (by omega)] at h3
   exact ⟨by omega, index_there.1 h3⟩
end Tt

end Go.Proofs.YtilpehpiikdkbaaGreatDoor
