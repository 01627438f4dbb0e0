/-
  A row of bytes that a call owns, made out of a string or grown by append: what it holds, and one byte put behind it. No function of the program is named here.
-/
import Derived.Test.YtdhebdahfnilkaaProg
import Derived.Test.YtdhebdahfnilkaaMem
import Derived.Lib.ConvBytes
namespace Go.Proofs.Ytdhebdahfnilkaa
open Go.RowKit

/-- The slice v owns the bytes l; its row is among the blocks from 'base' on; nothing of the row is frozen. -/
structure Buf (w : World) (base : Nat) (v : Value) (l : List UInt8) : Prop where
  ex : ∃ g cap cur fz, v = .slice (some ⟨g, 0, none⟩) l.length cap ∧ base ≤ g ∧ w.heap[g]? = some (.cells cur 5 fz) ∧ (fz = (0, 0) ∨ cur.size ≤ fz.1) ∧ l.length ≤ cap ∧ cap ≤ maxLen ∧ cur.size = cap ∧ cur.toList.take l.length = bcells l

theorem Buf.same {w w' : World} {base : Nat} {v : Value} {l : List UInt8} (h : Buf w base v l) (hb : ∀ k, base ≤ k → k < w.heap.size → w'.heap[k]? = w.heap[k]?) : Buf w' base v l := by
  obtain ⟨g, cap, cur, fz, h1, h2, h3, h4⟩ := h.ex
  exact ⟨g, cap, cur, fz, h1, h2, (hb g h2 (lt_of_block h3)).trans h3, h4⟩
theorem Buf.own {w : World} {base : Nat} {v : Value} {l : List UInt8} (h : Buf w base v l) : ∃ g, v.ownBlock = some g ∧ base ≤ g ∧ g < w.heap.size := by
  obtain ⟨g, cap, cur, fz, rfl, h2, h3, _⟩ := h.ex
  exact ⟨g, rfl, h2, lt_of_block h3⟩
theorem Buf.cells {w : World} {base : Nat} {v : Value} {l : List UInt8} (h : Buf w base v l) : ∃ g cap, v = .slice (some ⟨g, 0, none⟩) l.length cap ∧ base ≤ g ∧ g < w.heap.size ∧ l.length ≤ cap ∧ ∀ j (hj : j < l.length), w.cell? ⟨g, j, none⟩ = some (.int .u8 (l[j]).toNat) := by
  obtain ⟨g, cap, cur, fz, rfl, h2, h3, _, h5, _, h7, h8⟩ := h.ex
  refine ⟨g, cap, rfl, h2, lt_of_block h3, h5, fun j hj => ?_⟩
  have h9 := bcells_get l j hj
  rw [← h8, List.getElem?_take, if_pos hj] at h9
  rw [cell_of_row w g j cur _ fz h3]
  simpa using h9

theorem Buf.made (w : World) (s : ByteArray) (hs : s.size ≤ maxLen) : Buf (w.drew.alloc (.cells (bytesRow s (grownCap w s.size 0 5)) 5 ((bytesRow s (grownCap w s.size 0 5)).size, (bytesRow s (grownCap w s.size 0 5)).size + 1))) w.heap.size (.slice (some ⟨w.heap.size, 0, none⟩) s.size (grownCap w s.size 0 5)) s.data.toList := by
  have hge := grownCap_ge w s.size 0 5
  have hsz : (bytesRow s (grownCap w s.size 0 5)).size = grownCap w s.size 0 5 := by
    have e1 : s.data.size = s.size := rfl
    simp only [bytesRow, Array.size_append, Array.size_map, Array.size_replicate]
    omega
  refine ⟨w.heap.size, _, _, _, ?_, Nat.le_refl _, heap_alloc_new w.drew _, .inr (Nat.le_refl _), ?_, grownCap_le_maxLen w s.size 0 _ hs, hsz, ?_⟩
  · simp
  · simpa using hge
  · apply List.ext_getElem?
    intro j
    by_cases hj : j < s.data.toList.length
    · rw [List.getElem?_take, if_pos hj, bcells_get _ _ hj]
      have := bytesRow_at s (grownCap w s.size 0 5) j (by simpa using hj)
      simpa using this
    · rw [List.getElem?_eq_none (by rw [List.length_take]; omega), List.getElem?_eq_none (by rw [bcells_length]; omega)]

theorem run_append_buf (w : World) (base : Nat) (t ty : TypeId) (i : TypeInfo) (ht : Try.prog.underlying t = some (.slice 5)) (hi : Try.prog.info? 5 = some i) (hz : i.zero = some (.int .u8 0)) (hsize : i.size = 1) (hby : i.bytes = 1)
    (v : Value) (l : List UInt8) (h : Buf w base v l) (ad : Addr) (c : Nat) (b : UInt8) (hc : w.cell? ad = some (.int .u8 b.toNat)) (hl : l.length ≤ 1000000) (hbase : base ≤ w.heap.size) :
    ∃ v' w', (Builtin.append_ #[t, t] ty #[v, .slice (some ad) 1 c]).run Try.prog w = .ok v' w' ∧ Buf w' base v' (l ++ [b]) ∧ w.grownBy w' v.ownBlock := by
  obtain ⟨g, cap, cur, fz, rfl, h2, h3, h4, h5, h6, h7, h8⟩ := h.ex
  have hnews : ∀ j u, ([Value.int .u8 b.toNat] : List Value)[j]? = some u → w.cell? (ad.add j) = some u := fun j u hu => by
    match j with
    | 0 =>
      cases hu
      rw [show ad.add 0 = ad by unfold Addr.add; split <;> simp_all]
      exact hc
    | j + 1 => simp at hu
  have hone : ∀ u ∈ ([Value.int .u8 b.toNat] : List Value), u.oneCell' = true := fun u hu => by
    rw [List.mem_singleton] at hu
    subst hu
    rfl
  by_cases hroom : l.length + 1 ≤ cap
  · have hlt : l.length < cur.size := by omega
    have hf := run_firstCells_some (P := Try.prog) w i.size 1 ad 1 c [Value.int .u8 b.toNat] (by rw [hsize]; rfl) hnews
    have hcell : w.cell? ⟨g, l.length, none⟩ = some cur[l.length] := by simp [World.cell?, h3, hlt]
    have hfro : w.frozen? ⟨g, l.length, none⟩ = false := by
      obtain ⟨lo, hi'⟩ := fz
      simp only [World.frozen?, h3, Bool.and_eq_false_iff, decide_eq_false_iff_not]
      rcases h4 with h4 | h4
      · cases h4; right; omega
      · left; simp only at h4; omega
    have hadd : (⟨g, l.length, none⟩ : Addr).add 0 = ⟨g, l.length, none⟩ := by unfold Addr.add; split <;> simp_all
    have hst : (storeCells ⟨g, l.length, none⟩ [Value.int .u8 b.toNat]).run Try.prog w = .ok () (w.setRow g (cur.setIfInBounds l.length (.int .u8 b.toNat))) := by
      have h9 : (store (⟨g, l.length, none⟩ : Addr) (.int .u8 b.toNat)).run Try.prog w = .ok () (w.setRow g (cur.setIfInBounds l.length (.int .u8 b.toNat))) := by
        rw [run_store Try.prog w _ _ _ rfl, hcell]
        simp [hfro, setCell_eq_setRow w g l.length cur _ fz _ h3]
      simp only [storeCells, Sem.run_bind, hadd, h9, Result.andThen_ok]
      rfl
    refine ⟨.slice (some ⟨g, 0, none⟩) (l.length + 1) cap, w.setRow g (cur.setIfInBounds l.length (.int .u8 b.toNat)), ?_, ⟨g, cap, _, fz, ?_, h2, setRow_heap w g cur _ _ _ h3, ?_, ?_, h6, ?_, ?_⟩, ⟨rfl, rfl, rfl, by simp, fun k _ hk => setRow_other w g k _ (fun e => hk (by simp [Value.ownBlock, e]))⟩⟩
    · simp [Builtin.append_, run_underlying ht, sizeOf, typeInfo, hi, hsize, Builtin.lenOf, hroom, Addr.add_lit] at hf ⊢
      rw [hf]
      simp [hst]
    · simp
    · rcases h4 with h4 | h4
      · exact .inl h4
      · exact .inr (by simpa using h4)
    · simpa using hroom
    · simpa using h7
    · apply List.ext_getElem?
      intro j
      have h8' : ∀ j, j < l.length → cur.toList[j]? = (bcells l)[j]? := fun j hj => by rw [← h8, List.getElem?_take, if_pos hj]
      rw [bcells_append, Array.toList_setIfInBounds, List.length_append, List.length_singleton, List.getElem?_take]
      by_cases hj : j < l.length
      · rw [if_pos (by omega), List.getElem?_set_ne (by omega), List.getElem?_append_left (by rw [bcells_length]; exact hj), h8' j hj]
      · by_cases hj2 : j = l.length
        · subst hj2
          rw [if_pos (by omega), List.getElem?_append_right (by rw [bcells_length]; omega), bcells_length, Nat.sub_self, List.getElem?_set_self (by simpa using hlt)]
          rfl
        · rw [if_neg (by omega), List.getElem?_append_right (by rw [bcells_length]; omega), List.getElem?_eq_none (by simp [bcells]; omega)]
  · have hl2 : (bcells l).length = l.length * i.size := by rw [hsize, bcells_length, Nat.mul_one]
    have holds : ∀ j u, (bcells l)[j]? = some u → w.cell? ((⟨g, 0, none⟩ : Addr).add j) = some u := fun j u hu => by
      have hj : j < l.length := by
        have := (List.getElem?_eq_some_iff.1 hu).1
        rwa [bcells_length] at this
      rw [← h8, List.getElem?_take, if_pos hj] at hu
      rw [Addr.add_lit, Nat.zero_add, cell_of_row w g j cur _ fz h3]
      simpa using hu
    have hr := run_append_grow (P := Try.prog) w t ty 5 i (.int .u8 0) ht hi hz ⟨g, 0, none⟩ l.length cap (bcells l) hl2 holds ad 1 c [Value.int .u8 b.toNat] (by rw [hsize]; rfl) hnews (by omega) (by omega) (growslice_fits (by omega) (by rw [hby]; omega))
    have hge := grownCap_ge w (l.length + 1) cap 5
    have hcm := grownCap_le_maxLen w (l.length + 1) cap 5 (by unfold maxLen; omega)
    refine ⟨_, _, hr, ⟨w.heap.size, _, _, (0, 0), ?_, hbase, heap_alloc_new w.drew _, .inl rfl, ?_, hcm, ?_, ?_⟩, ⟨rfl, rfl, rfl, by simp, fun k hk _ => Below.heap_alloc w.drew _ k hk⟩⟩
    · rw [List.length_append, List.length_singleton]
    · rw [List.length_append, List.length_singleton]; exact hge
    · have hz1 : (Value.int IntKind.u8 0).cells.size = 1 := rfl
      simp only [Array.size_append, List.size_toArray, size_zeroCells, hz1, bcells_length, List.length_singleton]
      omega
    · simp only [Array.toList_append, List.append_assoc]
      rw [bcells_append, ← List.append_assoc, List.length_append, List.length_singleton]
      have e : (bcells l ++ bcells [b]).length = l.length + 1 := by rw [List.length_append, bcells_length, bcells_length]; rfl
      rw [← e]
      exact List.take_left

/-- The operation, for the walk. -/
theorem wpList_append_buf {ops : Array Oper} {rest : List Oper} {o : Oper} {a : Act} {w : World} {Q : Exit → Act → World → Prop} (hgd : o.guard = none) (s x : Operand) (t : TypeId)
    (ho : o.op = .call { callee := .builtin .append, args := #[s, x], argTypes := #[t, t] })
    (base : Nat) (i : TypeInfo) (ht : Try.prog.underlying t = some (.slice 5)) (hi : Try.prog.info? 5 = some i) (hz : i.zero = some (.int .u8 0)) (hsize : i.size = 1) (hby : i.bytes = 1)
    (v : Value) (l : List UInt8) (hs : a.eval s = v) (h : Buf w base v l) (ad : Addr) (c : Nat) (b : UInt8) (hx : a.eval x = .slice (some ad) 1 c) (hc : w.cell? ad = some (.int .u8 b.toNat)) (hl : l.length ≤ 1000000) (hbase : base ≤ w.heap.size)
    (hk : ∀ v' w', Buf w' base v' (l ++ [b]) → w.grownBy w' v.ownBlock → wpList Try.prog ops Q rest (a.put o.dst v') w') : wpList Try.prog ops Q (o :: rest) a w := by
  refine wpList_plain hgd fun K hK => ?_
  obtain ⟨v', w', hr, h2, h3⟩ := run_append_buf w base t o.type i ht hi hz hsize hby v l h ad c b hc hl hbase
  unfold Oper.wp execOp
  simp only [ho, resolve, invoke, builtin, Sem.run_bind, Sem.run_pure, Result.andThen_ok, List.map_toArray, List.map_cons, List.map_nil, hs, hx, hr]
  exact hK _ _ (hk v' w' h2 h3)

end Go.Proofs.Ytdhebdahfnilkaa
