/-
  WireThing; WireOpen; WireFew; WireNilLaw; WireRefRd; WireRefNum; WireRefAll; WireRefMore; WireRefHash: several texts in one.
-/
import Derived.Test.YtcjcomeakkjiiaaDoorWireAwake
import Derived.Deep.MidRow
import Derived.Test.YtcjcomeakkjiiaaDoorWireLaid
import Derived.Deep.Slices
import Derived.Test.YtcjcomeakkjiiaaDoorGA
import Derived.Stop.BytesEq
import Derived.Test.YtcjcomeakkjiiaaDoorWireAll
import Derived.Test.YtcjcomeakkjiiaaDoorGV

namespace Go.Proofs.YtcjcomeakkjiiaaDoor
open Go.RowKit

/-- A thing: its kind, number, text, digest, flag. -/
structure Th where
  kind : Nat
  n : Int
  s : ByteArray
  h : List UInt8
  b : Bool
/-- It is one that can be read. -/
structure Th.Ok (t : Th) : Prop where
  kind : t.kind < 256
  s : t.s.size ≤ 9223372036854775807
  h : t.h.length = 32
/-- Its cells. -/
def Th.cells (t : Th) : List Value := .int .u8 t.kind :: .int .i64 t.n :: .string t.s :: (bcells t.h ++ [.bool t.b])
/-- Its bytes, if it can be put. -/
def Th.bytes (t : Th) : Option (List UInt8) :=
  if t.kind % 4 = 0 then (if 0 ≤ t.n ∧ t.n ≤ 4611686018427387903 then some (Wm.enc t.n.toNat) else none)
  else if t.kind % 4 = 1 then (if t.s.size ≤ 65536 then some (Wm.enc t.s.size ++ t.s.data.toList) else none)
  else if t.kind % 4 = 2 then some t.h else some [if t.b then 1 else 0]
/-- What putting it makes of a writer's bytes. -/
def pTh (st : Option (List UInt8)) (t : Th) : Option (List UInt8) := t.bytes.bind fun x => st.map (· ++ x)

theorem Th.cells_length (t : Th) (h : t.Ok) : t.cells.length = 36 := by
  simp [Th.cells, bcells_length, h.h]
theorem Th.cell0 (t : Th) : t.cells.toArray[0]? = some (.int .u8 t.kind) := by simp [Th.cells]
theorem Th.cell1 (t : Th) : t.cells.toArray[1]? = some (.int .i64 t.n) := by simp [Th.cells]
theorem Th.cell2 (t : Th) : t.cells.toArray[2]? = some (.string t.s) := by simp [Th.cells]
theorem Th.cellB (t : Th) (h : t.Ok) : t.cells.toArray[35]? = some (.bool t.b) := by
  have e : (bcells t.h).length = 32 := by rw [bcells_length, h.h]
  simp only [Th.cells, List.getElem?_toArray]
  rw [show (35 : Nat) = 32 + 3 from rfl]
  simp only [List.getElem?_cons_succ]
  rw [List.getElem?_append_right (by omega), e]
  rfl
theorem Th.cellH (t : Th) (j : Nat) (v : Value) (hv : (bcells t.h)[j]? = some v) : t.cells.toArray[3 + j]? = some v := by
  have hj : j < (bcells t.h).length := (List.getElem?_eq_some_iff.1 hv).1
  simp only [Th.cells, List.getElem?_toArray]
  rw [Nat.add_comm]
  simp only [List.getElem?_cons_succ]
  rw [List.getElem?_append_left hj, hv]

theorem Th.bytes_le (t : Th) (h : t.Ok) (l : List UInt8) (hl : t.bytes = some l) : l.length ≤ 65544 := by
  unfold Th.bytes at hl
  split at hl
  · split at hl
    · cases hl; have := Wm.enc_length_le t.n.toNat; omega
    · cases hl
  · split at hl
    · split at hl
      · cases hl
        have := Wm.enc_length_le t.s.size
        rw [List.length_append]
        have e : t.s.data.toList.length = t.s.size := by simp
        omega
      · cases hl
    · split at hl
      · cases hl; rw [h.h]; omega
      · cases hl; simp
theorem short_th (st : Option (List UInt8)) (t : Th) (ht : t.Ok) (k : Nat) (h : Short st k) : Short (pTh st t) (k + 65544) := by
  intro l hl
  unfold pTh at hl
  cases hb : t.bytes with
  | none => rw [hb] at hl; cases hl
  | some x =>
    rw [hb] at hl
    have := t.bytes_le ht x hb
    have := short_raw st x k h l hl
    omega

/-- What 'put' answers. -/
def PutPost (w : World) (base b : Nat) (p : Value) (st : Option (List UInt8)) (t : Th) (e : Ending) (w' : World) : Prop :=
  e = .returned (.tuple #[.string (str (t.bytes.getD [])), .bool t.bytes.isSome]) ∧ WrV w' base b p (pTh st t) ∧ Kept base b w w'

theorem WrV.kept2 {w w' : World} {base b : Nat} {p : Value} {st : Option (List UInt8)} (h : WrV w base b p st) (k : Kept w.heap.size w.heap.size w w') : WrV w' base b p st := by
  rcases h with ⟨h1, h2, h3, h4⟩ | ⟨h1, h⟩
  · exact .inl ⟨h1, h2, Nat.le_trans h3 k.size, h4⟩
  · exact .inr ⟨h1, h.same k.size (k.block b (by have := h.lt; have := h.le; omega) (by have := h.lt; have := h.le; omega)) (fun i _ hi => k.block i hi (by omega))⟩

end Go.Proofs.YtcjcomeakkjiiaaDoor

namespace Go.Proofs.YtcjcomeakkjiiaaDoor
open Go.ChangeShapes Go.WideShapes Go.ChangeAt Go.RowKit Go.Deep

theorem wireCells5 : Tryd.prog.cellsOf 5 = 1 := by kernel_rfl
theorem wireCells9 : Tryd.prog.cellsOf 9 = 1 := by kernel_rfl
theorem wireCells4 : Tryd.prog.cellsOf 4 = 1 := by kernel_rfl
theorem wireCells30 : Tryd.prog.cellsOf 23 = 32 := by kernel_rfl
section
variable {H : Type} {enc : TypeId × Value → H} {w : World} {base : Nat} {spare : Nat → Bool} {held : Bool}

theorem one_at (cs : List Value) (i : Nat) (v : Value) (h : (cs.drop i).take 1 = [v]) : cs[i]? = some v := by
  have : ((cs.drop i).take 1)[0]? = some v := by rw [h]; rfl
  simpa using this

theorem open_hash {fuel : Nat} {cs : List Value} {x : DataW H × List MemPlace} (h : DataW.trod enc Tryd.prog w base spare held fuel 23 cs = some x) : ∃ l : List UInt8, l.length = 32 ∧ cs = bcells l := by
  obtain ⟨xs, m, _, _, hl, hn, hel⟩ := DataW.trod_array Tryd.underlying23 h
  rw [wireCells30] at hl
  have key : ∀ i, i < 32 → ∃ c : UInt8, cs[i]? = some (.int .u8 c.toNat) := fun i hi => by
    have h1 := hel i hi
    rw [wireCells5, Nat.mul_one, List.getElem?_eq_getElem (by omega)] at h1
    obtain ⟨n, h2, _, h3⟩ := DataW.trod_int Tryd.underlying5 h1
    have hw := bounds_u8 h3
    refine ⟨UInt8.ofNat n.toNat, ?_⟩
    rw [one_at _ _ _ h2, UInt8.toNat_ofNat']
    congr 2
    omega
  obtain ⟨f, hf⟩ := choose_lt (α := UInt8) key
  refine ⟨(List.range 32).map f, by simp, ?_⟩
  apply List.ext_getElem?
  intro i
  by_cases hi : i < 32
  · rw [hf i hi]
    simp [bcells, hi]
  · rw [List.getElem?_eq_none (by omega), List.getElem?_eq_none (by simp [bcells]; omega)]

instance : Inhabited Th := ⟨⟨0, 0, ByteArray.empty, [], false⟩⟩

/-- A slice of things: its length, and what each is. -/
structure Things (w : World) (v : Value) (len : Nat) (T : Nat → Th) : Prop where
  lenLe : len ≤ 9223372036854775807
  ok : ∀ i, i < len → (T i).Ok
  ex : ∃ ao cap, v = .slice ao len cap ∧ (0 < len → ∃ g o, ao = some ⟨g, o, none⟩ ∧ g < w.heap.size ∧ ∀ i, i < len → w.rangeAt g (o + i * 36) (T i).cells)

end
end Go.Proofs.YtcjcomeakkjiiaaDoor

namespace Go.Proofs.YtcjcomeakkjiiaaDoor
open Go.RowKit

/-- What 'few' answers. -/
def FewPost (w : World) (len : Nat) (e : Ending) (w' : World) : Prop := ∃ bb : Bool, e = .returned (.bool bb) ∧ (bb = true → len ≤ 300) ∧ w = w'

theorem Things.same {w w' : World} {v : Value} {len : Nat} {T : Nat → Th} (h : Things w v len T) (k : Kept w.heap.size w.heap.size w w') : Things w' v len T := by
  obtain ⟨ao, cap, rfl, hex⟩ := h.ex
  refine ⟨h.lenLe, h.ok, ao, cap, rfl, fun hpos => ?_⟩
  obtain ⟨g, o, rfl, hg, hr⟩ := hex hpos
  refine ⟨g, o, rfl, Nat.lt_of_lt_of_le hg k.size, fun i hi j u hu => ?_⟩
  rw [k.cell (p := ⟨g, o + i * 36 + j, none⟩) hg (by show g ≠ w.heap.size; omega)]
  exact hr i hi j u hu

end Go.Proofs.YtcjcomeakkjiiaaDoor

namespace Go.Proofs.YtcjcomeakkjiiaaDoor
open Go.RowKit

theorem wireGuard30 : Tryd.prog.eqGuardType Tryd.prog.depth 23 = false := by kernel_rfl
theorem wireSizeOf5 (w : World) : (sizeOf 5).run Tryd.prog w = .ok 1 w := by kernel_rfl
theorem zeros32_same (w : World) : (Op.equalIn 10000 23 (.agg zeros32) (.agg zeros32)).run Tryd.prog w = .ok true w := by
  have := hash_equalIn w (List.replicate 32 0) (List.replicate 32 0) rfl rfl
  rwa [beq_self_eq_true] at this

theorem zeros32_lit (w : World) : (Op.equalIn 10000 23 (.agg zeros32) (.agg #[Value.int IntKind.u8 0, Value.int IntKind.u8 0, Value.int IntKind.u8 0, Value.int IntKind.u8 0, Value.int IntKind.u8 0, Value.int IntKind.u8 0, Value.int IntKind.u8 0, Value.int IntKind.u8 0, Value.int IntKind.u8 0, Value.int IntKind.u8 0, Value.int IntKind.u8 0, Value.int IntKind.u8 0, Value.int IntKind.u8 0, Value.int IntKind.u8 0, Value.int IntKind.u8 0, Value.int IntKind.u8 0, Value.int IntKind.u8 0, Value.int IntKind.u8 0, Value.int IntKind.u8 0, Value.int IntKind.u8 0, Value.int IntKind.u8 0, Value.int IntKind.u8 0, Value.int IntKind.u8 0, Value.int IntKind.u8 0, Value.int IntKind.u8 0, Value.int IntKind.u8 0, Value.int IntKind.u8 0, Value.int IntKind.u8 0, Value.int IntKind.u8 0, Value.int IntKind.u8 0, Value.int IntKind.u8 0, Value.int IntKind.u8 0])).run Tryd.prog w = .ok true w := zeros32_same w

theorem nil_failed (w : World) : Failed w (.pointer none) 1 := ⟨by decide, .inl ⟨rfl, rfl⟩⟩

end Go.Proofs.YtcjcomeakkjiiaaDoor

namespace Go.Proofs.YtcjcomeakkjiiaaDoor
open Go.RowKit

/-- The document's own reader at block c: what is left, and its error. -/
structure Rf (w : World) (c : Nat) (l : List UInt8) (e : Int) : Prop where
  ex : ∃ s, w.heap[c]? = some (.cells #[.string s, .int .i64 e] 63 (0, 0)) ∧ (e = 0 → s = str l)
  fail : e ≠ 0 → l = []
theorem Rf.same {w w' : World} {c : Nat} {l : List UInt8} {e : Int} (h : Rf w c l e) (hb : w'.heap[c]? = w.heap[c]?) : Rf w' c l e := by
  obtain ⟨s, h1, h2⟩ := h.ex
  exact ⟨⟨s, hb.trans h1, h2⟩, h.fail⟩
theorem Rf.lt {w : World} {c : Nat} {l : List UInt8} {e : Int} (h : Rf w c l e) : c < w.heap.size := by
  obtain ⟨s, h1, _⟩ := h.ex
  exact (Array.getElem?_eq_some_iff.1 h1).1
theorem Rf.kept {w w' : World} {c base r : Nat} {l : List UInt8} {e : Int} (h : Rf w c l e) (k : Kept base r w w') (hB : c < base) (hr : c ≠ r) : Rf w' c l e :=
  h.same (k.block c hB hr)
theorem Rf.alloc {w : World} {c : Nat} {l : List UInt8} {e : Int} (h : Rf w c l e) (o : Obj) : Rf (w.alloc o) c l e := h.same (Below.heap_alloc _ _ _ h.lt)
theorem Rf.err {w : World} {c : Nat} {l : List UInt8} {e : Int} (h : Rf w c l e) : w.cell? ⟨c, 1, none⟩ = some (.int .i64 e) := by
  obtain ⟨s, h1, _⟩ := h.ex
  exact two_cell1 h1
theorem Rf.setErr {w : World} {c : Nat} {s : ByteArray} {x : Value} (e : Int) (he : e ≠ 0) (h : w.heap[c]? = some (.cells #[.string s, x] 63 (0, 0))) : Rf (w.setCell ⟨c, 1, none⟩ (.int .i64 e)) c [] e :=
  ⟨⟨s, two_set1 h, fun h => absurd h he⟩, fun _ => rfl⟩

/-- A string answered, and the document's own reader behind it. -/
def StrPost (w : World) (c : Nat) (r : Wm.Got (List UInt8)) (e : Ending) (w' : World) : Prop := e = .returned (.string (str r.val)) ∧ Rf w' c r.left r.err ∧ Kept w.heap.size c w w'
def gRaw (l : List UInt8) (e : Int) (n : Nat) : Wm.Got (List UInt8) := if e = 0 then Wm.rRaw l n else ⟨[], [], e⟩

theorem refraw_failed (c : Nat) (l : List UInt8) (e0 : Int) (n : Int) (w : World) (h : Rf w c l e0) (he : e0 ≠ 0) :
    Calls Tryd.prog 74 #[.pointer (some ⟨c, 0, none⟩), .int .i64 n] w fun e w' => e = .returned (.string (str [])) ∧ w = w' := by
  have hx : (e0 != 0) = true := by simpa using he
  have c1 := h.err
  clear h
  go_enter Tryd.func74, Tryd.ntmps74
  go_wp2
  go_ret
  exact ⟨rfl, rfl⟩
theorem refraw_short (c : Nat) (s : ByteArray) (n : Nat) (w : World) (h0 : w.cell? ⟨c, 0, none⟩ = some (.string s)) (h1 : w.cell? ⟨c, 1, none⟩ = some (.int .i64 0)) (f1 : w.frozen? ⟨c, 1, none⟩ = false) (hs : s.size < n) :
    Calls Tryd.prog 74 #[.pointer (some ⟨c, 0, none⟩), .int .i64 n] w fun e w' => e = .returned (.string (str [])) ∧ w.setCell ⟨c, 1, none⟩ (.int .i64 2) = w' := by
  go_enter Tryd.func74, Tryd.ntmps74
  go_wp2
  go_ret
  exact ⟨rfl, rfl⟩
theorem refraw_ok (c : Nat) (s : ByteArray) (n : Nat) (w : World) (h0 : w.cell? ⟨c, 0, none⟩ = some (.string s)) (h1 : w.cell? ⟨c, 1, none⟩ = some (.int .i64 0)) (f0 : w.frozen? ⟨c, 0, none⟩ = false) (hs : n ≤ s.size) :
    Calls Tryd.prog 74 #[.pointer (some ⟨c, 0, none⟩), .int .i64 n] w fun e w' => e = .returned (.string (s.extract 0 n)) ∧ w.setCell ⟨c, 0, none⟩ (.string (s.extract n s.size)) = w' := by
  have h9 : ¬ s.size < n := by omega
  go_enter Tryd.func74, Tryd.ntmps74
  go_wp2
  go_ret
  exact ⟨rfl, rfl⟩

theorem refraw_all (c : Nat) (l : List UInt8) (e0 : Int) (n : Nat) (w : World) (h : Rf w c l e0) :
    Calls Tryd.prog 74 #[.pointer (some ⟨c, 0, none⟩), .int .i64 n] w fun e w' => StrPost w c (gRaw l e0 n) e w' := by
  unfold gRaw
  split
  · rename_i he
    subst he
    obtain ⟨s, hb, hs⟩ := h.ex
    obtain rfl := hs rfl
    unfold Wm.rRaw
    split
    · rename_i hlt
      refine (refraw_short c (str l) n w (two_cell0 hb) (two_cell1 hb) (two_free hb 1) (by rw [str_size]; exact hlt)).mono ?_
      rintro e w' ⟨rfl, rfl⟩
      exact ⟨rfl, Rf.setErr 2 (by decide) hb, (Kept.refl _ _ _).set (.inl rfl) 1 _⟩
    · rename_i hlt
      refine (refraw_ok c (str l) n w (two_cell0 hb) (two_cell1 hb) (two_free hb 0) (by rw [str_size]; omega)).mono ?_
      rintro e w' ⟨rfl, rfl⟩
      exact ⟨by rw [str_take], ⟨⟨_, two_set0 hb, fun _ => str_drop l n⟩, fun h => absurd rfl h⟩, (Kept.refl _ _ _).set (.inl rfl) 0 _⟩
  · rename_i he
    obtain rfl := h.fail he
    refine (refraw_failed c _ e0 n w h he).mono ?_
    rintro e w' ⟨rfl, rfl⟩
    exact ⟨rfl, h, Kept.refl _ _ _⟩


/-! ## Num -/
theorem numrd_failed (c : Nat) (e0 : Int) (most : Int) (w : World) (c1 : w.cell? ⟨c, 1, none⟩ = some (.int .i64 e0)) (hx : (e0 != 0) = true) :
    Calls Tryd.prog 64 #[.pointer (some ⟨c, 0, none⟩), .int .i64 most] w fun e w' => e = .returned (.int .i64 0) ∧ w = w' := by
  go_enter Tryd.func64, Tryd.ntmps64
  go_wp2
  go_ret
  exact ⟨rfl, rfl⟩
theorem numrd_empty (c : Nat) (most : Int) (w : World) (c0 : w.cell? ⟨c, 0, none⟩ = some (.string (str []))) (c1 : w.cell? ⟨c, 1, none⟩ = some (.int .i64 0)) (f1 : w.frozen? ⟨c, 1, none⟩ = false) :
    Calls Tryd.prog 64 #[.pointer (some ⟨c, 0, none⟩), .int .i64 most] w fun e w' => e = .returned (.int .i64 0) ∧ w.setCell ⟨c, 1, none⟩ (.int .i64 2) = w' := by
  have hz : (str []).size = 0 := rfl
  go_enter Tryd.func64, Tryd.ntmps64
  go_wp2
  go_ret
  exact ⟨rfl, rfl⟩

/-! ## Flag -/
theorem flag_raw (l : List UInt8) (e : Int) : gFlag l e = if (gRaw l e 1).err = 0 then (match (gRaw l e 1).val with | [f] => if 1 < f.toNat then ⟨false, [], 3⟩ else ⟨f.toNat == 1, (gRaw l e 1).left, 0⟩ | _ => ⟨false, [], 2⟩) else ⟨false, [], (gRaw l e 1).err⟩ := by
  unfold gFlag gRaw
  by_cases he : e = 0
  · subst he
    rw [if_pos rfl, if_pos rfl]
    cases l with
    | nil => rfl
    | cons f t => simp [Wm.rFlag, Wm.rRaw]
  · rw [if_neg he, if_neg he]
    show _ = if e = 0 then _ else _
    rw [if_neg he]

end Go.Proofs.YtcjcomeakkjiiaaDoor

namespace Go.Proofs.YtcjcomeakkjiiaaDoor
open Go.RowKit

/-- The number's bytes, one after another. -/
structure NumAcc (s : ByteArray) (F K : Nat) (A : Nat → Int) : Prop where
  one : A 1 = (F : Int) % 64
  step : ∀ j (h : j < s.size), 1 ≤ j → j < K → A (j + 1) = A j * 256 + ((s[j]'h).toNat : Int)
  bound : ∀ j, 1 ≤ j → j < K → 0 ≤ A j ∧ A j < 18014398509481984

/-- What the walk behind the bytes leaves. -/
def NumRd (w : World) (c : Nat) (s : ByteArray) (K m : Nat) (x : Int) (e : Ending) (w' : World) : Prop :=
  ∃ w2, Kept w.heap.size w.heap.size (w.setCell ⟨c, 0, none⟩ (.string (s.extract K s.size))) w2 ∧ ((x = 0 ∧ e = .returned (.int .i64 m) ∧ w2 = w') ∨ (x ≠ 0 ∧ e = .returned (.int .i64 0) ∧ w2.setCell ⟨c, 1, none⟩ (.int .i64 x) = w'))

set_option maxHeartbeats 3200000 in
set_option maxRecDepth 100000 in
theorem numrd_long0 (c : Nat) (s : ByteArray) (F : Nat) (most : Int) (w : World) (hb : w.heap[c]? = some (.cells #[.string s, .int .i64 0] 63 (0, 0))) (_hz : (s.size == 0) = false) (hz2 : 0 < s.size)
    (hF : Hid (wrap64 ((s[0]'hz2).toNat : Int) = (F : Int))) (hlo : 0 ≤ F) (hhi : F < 64) (_hs : ¬ s.size < 1) (_hs2 : 1 ≤ s.size) (A : Nat → Int) (hA : NumAcc s F 1 A) (m : Nat) (hm : Hid (A 1 = (m : Int))) (hm2 : Hid (m ≤ 4611686018427387903)) (x : Int)
    (B : List UInt8) (hB : Hid (s.extract 0 1 = str B)) (hx : Hid ((x = 3 ∧ (Wm.enc m == B) = false) ∨ (x = 5 ∧ (Wm.enc m == B) = true ∧ most < (m : Int)) ∨ (x = 0 ∧ (Wm.enc m == B) = true ∧ (m : Int) ≤ most))) :
    Calls Tryd.prog 64 #[.pointer (some ⟨c, 0, none⟩), .int .i64 most] w fun e w' => NumRd w c s 1 m x e w' := by
  have H1 := Lib.hid hA.one
  have H2 := Lib.hid hA.step
  have H3 := Lib.hid hA.bound
  clear hA
  obtain ⟨w1, hw1⟩ : ∃ w1, w1 = w.setCell ⟨c, 0, none⟩ (.string (s.extract 1 s.size)) := ⟨_, rfl⟩
  have Hw1 := Lib.hid hw1
  have c0 := two_cell0 hb
  have c1 := two_cell1 hb
  have f0 := two_free hb 0
  have f1 := two_free hb 1
  have d1 : w1.cell? ⟨c, 1, none⟩ = some (.int .i64 0) := by rw [hw1]; exact two_cell1 (two_set0 hb)
  have g1 : w1.frozen? ⟨c, 1, none⟩ = false := by rw [hw1]; exact two_free (two_set0 hb) 1
  have hs1 : w1.heap.size = w.heap.size := by rw [hw1]; simp [World.setCell]
  have hc1 : c < w1.heap.size := by rw [hs1]; exact (Array.getElem?_eq_some_iff.1 hb).1
  have Hs1 := Lib.hid hs1
  clear hw1 hb hs1
  go_enter Tryd.func64, Tryd.ntmps64
  go_wp2
  rw [hF.out]
  clear hF
  refine wp_loop_rounds 1 ?_; rw [rounds_succ]
  go_wp2
  have hFm : (F : Int) % 64 = (m : Int) := H1.out.symm.trans hm.out
  refine wp_loop_rounds 1 ?_; rw [rounds_succ]
  go_wp2_with fail
  rw [hFm]
  clear hFm
  rw [← Hw1.out, hB.out]
  refine (refnum m w1 hm2.out).mono ?_
  rintro e w2 ⟨rfl, k2⟩
  have d2 : w2.cell? ⟨c, 1, none⟩ = some (.int .i64 0) := (k2.cell (p := ⟨c, 1, none⟩) hc1 (by show c ≠ _; omega)).trans d1
  have g2 : w2.frozen? ⟨c, 1, none⟩ = false := (k2.frozen (p := ⟨c, 1, none⟩) hc1 (by show c ≠ _; omega)).trans g1
  clear d1 g1
  rw [Hs1.out, Hw1.out] at k2
  have hx9 := hx.out
  clear hx
  rcases hx9 with ⟨rfl, hne⟩ | ⟨rfl, hne, hmo⟩ | ⟨rfl, hne, hmo⟩
  · go_wp2
    go_ret
    exact ⟨w2, k2, .inr ⟨by decide, rfl, rfl⟩⟩
  · go_wp2
    go_ret
    exact ⟨w2, k2, .inr ⟨by decide, rfl, rfl⟩⟩
  · go_wp2
    go_ret
    exact ⟨w2, k2, .inl ⟨rfl, rfl, rfl⟩⟩

set_option maxHeartbeats 1600000 in
set_option maxRecDepth 100000 in
theorem numrd_short1 (c : Nat) (s : ByteArray) (F : Nat) (most : Int) (w : World) (c0 : w.cell? ⟨c, 0, none⟩ = some (.string s)) (c1 : w.cell? ⟨c, 1, none⟩ = some (.int .i64 0)) (f1 : w.frozen? ⟨c, 1, none⟩ = false) (_hz : (s.size == 0) = false) (hz2 : 0 < s.size)
    (hF : Hid (wrap64 ((s[0]'hz2).toNat : Int) = (F : Int))) (hlo : 64 ≤ F) (hhi : F < 128) (hs : s.size < 2) :
    Calls Tryd.prog 64 #[.pointer (some ⟨c, 0, none⟩), .int .i64 most] w fun e w' => e = .returned (.int .i64 0) ∧ w.setCell ⟨c, 1, none⟩ (.int .i64 2) = w' := by
  go_enter Tryd.func64, Tryd.ntmps64
  go_wp2
  rw [hF.out]
  clear hF
  refine wp_loop_rounds 2 ?_; rw [rounds_succ]
  go_wp2
  iterate 1 (rw [rounds_succ]; go_wp2)
  go_ret
  exact ⟨rfl, rfl⟩

set_option maxHeartbeats 3200000 in
set_option maxRecDepth 100000 in
theorem numrd_long1 (c : Nat) (s : ByteArray) (F : Nat) (most : Int) (w : World) (hb : w.heap[c]? = some (.cells #[.string s, .int .i64 0] 63 (0, 0))) (_hz : (s.size == 0) = false) (hz2 : 0 < s.size)
    (hF : Hid (wrap64 ((s[0]'hz2).toNat : Int) = (F : Int))) (hlo : 64 ≤ F) (hhi : F < 128) (hs : ¬ s.size < 2) (_hs2 : 2 ≤ s.size) (A : Nat → Int) (hA : NumAcc s F 2 A) (m : Nat) (hm : Hid (A 2 = (m : Int))) (hm2 : Hid (m ≤ 4611686018427387903)) (x : Int)
    (B : List UInt8) (hB : Hid (s.extract 0 2 = str B)) (hx : Hid ((x = 3 ∧ (Wm.enc m == B) = false) ∨ (x = 5 ∧ (Wm.enc m == B) = true ∧ most < (m : Int)) ∨ (x = 0 ∧ (Wm.enc m == B) = true ∧ (m : Int) ≤ most))) :
    Calls Tryd.prog 64 #[.pointer (some ⟨c, 0, none⟩), .int .i64 most] w fun e w' => NumRd w c s 2 m x e w' := by
  have H1 := Lib.hid hA.one
  have H2 := Lib.hid hA.step
  have H3 := Lib.hid hA.bound
  clear hA
  obtain ⟨w1, hw1⟩ : ∃ w1, w1 = w.setCell ⟨c, 0, none⟩ (.string (s.extract 2 s.size)) := ⟨_, rfl⟩
  have Hw1 := Lib.hid hw1
  have c0 := two_cell0 hb
  have c1 := two_cell1 hb
  have f0 := two_free hb 0
  have f1 := two_free hb 1
  have d1 : w1.cell? ⟨c, 1, none⟩ = some (.int .i64 0) := by rw [hw1]; exact two_cell1 (two_set0 hb)
  have g1 : w1.frozen? ⟨c, 1, none⟩ = false := by rw [hw1]; exact two_free (two_set0 hb) 1
  have hs1 : w1.heap.size = w.heap.size := by rw [hw1]; simp [World.setCell]
  have hc1 : c < w1.heap.size := by rw [hs1]; exact (Array.getElem?_eq_some_iff.1 hb).1
  have Hs1 := Lib.hid hs1
  clear hw1 hb hs1
  go_enter Tryd.func64, Tryd.ntmps64
  go_wp2
  rw [hF.out]
  clear hF
  refine wp_loop_rounds 2 ?_; rw [rounds_succ]
  go_wp2
  iterate 1 (rw [rounds_succ]; go_wp2)
  go_loopw [8, 9] (fun n i w9 => ∃ (j : Nat) (a : Int), 1 ≤ j ∧ j ≤ 2 ∧ i = .int .i64 j ∧ n = .int .i64 a ∧ Hid (a = A j) ∧ w9 = w) (fun _ i _ => 2 - (RowKit.intOf i).toNat)
  case atStart => exact ⟨1, (F : Int) % 64, by omega, by omega, by go_num, by go_num, Lib.hid H1.out.symm, rfl⟩
  case round =>
    obtain ⟨j, a, hj1, hj, rfl, rfl, ha, rfl⟩ := hrel
    by_cases hlt : j < 2
    · have hjs : j < s.size := by omega
      have hb := H3.out j hj1 hlt
      rw [← ha.out] at hb
      have hstep := Lib.hid (H2.out j hjs hj1 hlt)
      have hby := (s[j]'hjs).toNat_lt
      go_wp2
      go_roundw
      case rel => exact ⟨j + 1, a * 256 + ((s[j]'hjs).toNat : Int), by omega, by omega, by go_num, by go_num, Lib.hid (by rw [ha.out]; exact hstep.out.symm), by first | rfl | trivial⟩
      case measure => simp [RowKit.intOf]; omega
    · obtain rfl : j = 2 := by omega
      obtain rfl : a = (m : Int) := ha.out.trans hm.out
      clear ha
      go_wp2_with fail
      rw [← Hw1.out, hB.out]
      refine (refnum m w1 hm2.out).mono ?_
      rintro e w2 ⟨rfl, k2⟩
      have d2 : w2.cell? ⟨c, 1, none⟩ = some (.int .i64 0) := (k2.cell (p := ⟨c, 1, none⟩) hc1 (by show c ≠ _; omega)).trans d1
      have g2 : w2.frozen? ⟨c, 1, none⟩ = false := (k2.frozen (p := ⟨c, 1, none⟩) hc1 (by show c ≠ _; omega)).trans g1
      clear d1 g1
      rw [Hs1.out, Hw1.out] at k2
      have hx9 := hx.out
      clear hx
      rcases hx9 with ⟨rfl, hne⟩ | ⟨rfl, hne, hmo⟩ | ⟨rfl, hne, hmo⟩
      · go_wp2
        go_ret
        exact ⟨w2, k2, .inr ⟨by decide, rfl, rfl⟩⟩
      · go_wp2
        go_ret
        exact ⟨w2, k2, .inr ⟨by decide, rfl, rfl⟩⟩
      · go_wp2
        go_ret
        exact ⟨w2, k2, .inl ⟨rfl, rfl, rfl⟩⟩

set_option maxHeartbeats 1600000 in
set_option maxRecDepth 100000 in
theorem numrd_short2 (c : Nat) (s : ByteArray) (F : Nat) (most : Int) (w : World) (c0 : w.cell? ⟨c, 0, none⟩ = some (.string s)) (c1 : w.cell? ⟨c, 1, none⟩ = some (.int .i64 0)) (f1 : w.frozen? ⟨c, 1, none⟩ = false) (_hz : (s.size == 0) = false) (hz2 : 0 < s.size)
    (hF : Hid (wrap64 ((s[0]'hz2).toNat : Int) = (F : Int))) (hlo : 128 ≤ F) (hhi : F < 192) (hs : s.size < 4) :
    Calls Tryd.prog 64 #[.pointer (some ⟨c, 0, none⟩), .int .i64 most] w fun e w' => e = .returned (.int .i64 0) ∧ w.setCell ⟨c, 1, none⟩ (.int .i64 2) = w' := by
  go_enter Tryd.func64, Tryd.ntmps64
  go_wp2
  rw [hF.out]
  clear hF
  refine wp_loop_rounds 3 ?_; rw [rounds_succ]
  go_wp2
  iterate 2 (rw [rounds_succ]; go_wp2)
  go_ret
  exact ⟨rfl, rfl⟩

set_option maxHeartbeats 3200000 in
set_option maxRecDepth 100000 in
theorem numrd_long2 (c : Nat) (s : ByteArray) (F : Nat) (most : Int) (w : World) (hb : w.heap[c]? = some (.cells #[.string s, .int .i64 0] 63 (0, 0))) (_hz : (s.size == 0) = false) (hz2 : 0 < s.size)
    (hF : Hid (wrap64 ((s[0]'hz2).toNat : Int) = (F : Int))) (hlo : 128 ≤ F) (hhi : F < 192) (hs : ¬ s.size < 4) (_hs2 : 4 ≤ s.size) (A : Nat → Int) (hA : NumAcc s F 4 A) (m : Nat) (hm : Hid (A 4 = (m : Int))) (hm2 : Hid (m ≤ 4611686018427387903)) (x : Int)
    (B : List UInt8) (hB : Hid (s.extract 0 4 = str B)) (hx : Hid ((x = 3 ∧ (Wm.enc m == B) = false) ∨ (x = 5 ∧ (Wm.enc m == B) = true ∧ most < (m : Int)) ∨ (x = 0 ∧ (Wm.enc m == B) = true ∧ (m : Int) ≤ most))) :
    Calls Tryd.prog 64 #[.pointer (some ⟨c, 0, none⟩), .int .i64 most] w fun e w' => NumRd w c s 4 m x e w' := by
  have H1 := Lib.hid hA.one
  have H2 := Lib.hid hA.step
  have H3 := Lib.hid hA.bound
  clear hA
  obtain ⟨w1, hw1⟩ : ∃ w1, w1 = w.setCell ⟨c, 0, none⟩ (.string (s.extract 4 s.size)) := ⟨_, rfl⟩
  have Hw1 := Lib.hid hw1
  have c0 := two_cell0 hb
  have c1 := two_cell1 hb
  have f0 := two_free hb 0
  have f1 := two_free hb 1
  have d1 : w1.cell? ⟨c, 1, none⟩ = some (.int .i64 0) := by rw [hw1]; exact two_cell1 (two_set0 hb)
  have g1 : w1.frozen? ⟨c, 1, none⟩ = false := by rw [hw1]; exact two_free (two_set0 hb) 1
  have hs1 : w1.heap.size = w.heap.size := by rw [hw1]; simp [World.setCell]
  have hc1 : c < w1.heap.size := by rw [hs1]; exact (Array.getElem?_eq_some_iff.1 hb).1
  have Hs1 := Lib.hid hs1
  clear hw1 hb hs1
  go_enter Tryd.func64, Tryd.ntmps64
  go_wp2
  rw [hF.out]
  clear hF
  refine wp_loop_rounds 3 ?_; rw [rounds_succ]
  go_wp2
  iterate 2 (rw [rounds_succ]; go_wp2)
  go_loopw [8, 9] (fun n i w9 => ∃ (j : Nat) (a : Int), 1 ≤ j ∧ j ≤ 4 ∧ i = .int .i64 j ∧ n = .int .i64 a ∧ Hid (a = A j) ∧ w9 = w) (fun _ i _ => 4 - (RowKit.intOf i).toNat)
  case atStart => exact ⟨1, (F : Int) % 64, by omega, by omega, by go_num, by go_num, Lib.hid H1.out.symm, rfl⟩
  case round =>
    obtain ⟨j, a, hj1, hj, rfl, rfl, ha, rfl⟩ := hrel
    by_cases hlt : j < 4
    · have hjs : j < s.size := by omega
      have hb := H3.out j hj1 hlt
      rw [← ha.out] at hb
      have hstep := Lib.hid (H2.out j hjs hj1 hlt)
      have hby := (s[j]'hjs).toNat_lt
      go_wp2
      go_roundw
      case rel => exact ⟨j + 1, a * 256 + ((s[j]'hjs).toNat : Int), by omega, by omega, by go_num, by go_num, Lib.hid (by rw [ha.out]; exact hstep.out.symm), by first | rfl | trivial⟩
      case measure => simp [RowKit.intOf]; omega
    · obtain rfl : j = 4 := by omega
      obtain rfl : a = (m : Int) := ha.out.trans hm.out
      clear ha
      go_wp2_with fail
      rw [← Hw1.out, hB.out]
      refine (refnum m w1 hm2.out).mono ?_
      rintro e w2 ⟨rfl, k2⟩
      have d2 : w2.cell? ⟨c, 1, none⟩ = some (.int .i64 0) := (k2.cell (p := ⟨c, 1, none⟩) hc1 (by show c ≠ _; omega)).trans d1
      have g2 : w2.frozen? ⟨c, 1, none⟩ = false := (k2.frozen (p := ⟨c, 1, none⟩) hc1 (by show c ≠ _; omega)).trans g1
      clear d1 g1
      rw [Hs1.out, Hw1.out] at k2
      have hx9 := hx.out
      clear hx
      rcases hx9 with ⟨rfl, hne⟩ | ⟨rfl, hne, hmo⟩ | ⟨rfl, hne, hmo⟩
      · go_wp2
        go_ret
        exact ⟨w2, k2, .inr ⟨by decide, rfl, rfl⟩⟩
      · go_wp2
        go_ret
        exact ⟨w2, k2, .inr ⟨by decide, rfl, rfl⟩⟩
      · go_wp2
        go_ret
        exact ⟨w2, k2, .inl ⟨rfl, rfl, rfl⟩⟩

set_option maxHeartbeats 1600000 in
set_option maxRecDepth 100000 in
theorem numrd_short3 (c : Nat) (s : ByteArray) (F : Nat) (most : Int) (w : World) (c0 : w.cell? ⟨c, 0, none⟩ = some (.string s)) (c1 : w.cell? ⟨c, 1, none⟩ = some (.int .i64 0)) (f1 : w.frozen? ⟨c, 1, none⟩ = false) (_hz : (s.size == 0) = false) (hz2 : 0 < s.size)
    (hF : Hid (wrap64 ((s[0]'hz2).toNat : Int) = (F : Int))) (hlo : 192 ≤ F) (hhi : F < 256) (hs : s.size < 8) :
    Calls Tryd.prog 64 #[.pointer (some ⟨c, 0, none⟩), .int .i64 most] w fun e w' => e = .returned (.int .i64 0) ∧ w.setCell ⟨c, 1, none⟩ (.int .i64 2) = w' := by
  go_enter Tryd.func64, Tryd.ntmps64
  go_wp2
  rw [hF.out]
  clear hF
  refine wp_loop_rounds 4 ?_; rw [rounds_succ]
  go_wp2
  iterate 3 (rw [rounds_succ]; go_wp2)
  go_ret
  exact ⟨rfl, rfl⟩

set_option maxHeartbeats 3200000 in
set_option maxRecDepth 100000 in
theorem numrd_long3 (c : Nat) (s : ByteArray) (F : Nat) (most : Int) (w : World) (hb : w.heap[c]? = some (.cells #[.string s, .int .i64 0] 63 (0, 0))) (_hz : (s.size == 0) = false) (hz2 : 0 < s.size)
    (hF : Hid (wrap64 ((s[0]'hz2).toNat : Int) = (F : Int))) (hlo : 192 ≤ F) (hhi : F < 256) (hs : ¬ s.size < 8) (_hs2 : 8 ≤ s.size) (A : Nat → Int) (hA : NumAcc s F 8 A) (m : Nat) (hm : Hid (A 8 = (m : Int))) (hm2 : Hid (m ≤ 4611686018427387903)) (x : Int)
    (B : List UInt8) (hB : Hid (s.extract 0 8 = str B)) (hx : Hid ((x = 3 ∧ (Wm.enc m == B) = false) ∨ (x = 5 ∧ (Wm.enc m == B) = true ∧ most < (m : Int)) ∨ (x = 0 ∧ (Wm.enc m == B) = true ∧ (m : Int) ≤ most))) :
    Calls Tryd.prog 64 #[.pointer (some ⟨c, 0, none⟩), .int .i64 most] w fun e w' => NumRd w c s 8 m x e w' := by
  have H1 := Lib.hid hA.one
  have H2 := Lib.hid hA.step
  have H3 := Lib.hid hA.bound
  clear hA
  obtain ⟨w1, hw1⟩ : ∃ w1, w1 = w.setCell ⟨c, 0, none⟩ (.string (s.extract 8 s.size)) := ⟨_, rfl⟩
  have Hw1 := Lib.hid hw1
  have c0 := two_cell0 hb
  have c1 := two_cell1 hb
  have f0 := two_free hb 0
  have f1 := two_free hb 1
  have d1 : w1.cell? ⟨c, 1, none⟩ = some (.int .i64 0) := by rw [hw1]; exact two_cell1 (two_set0 hb)
  have g1 : w1.frozen? ⟨c, 1, none⟩ = false := by rw [hw1]; exact two_free (two_set0 hb) 1
  have hs1 : w1.heap.size = w.heap.size := by rw [hw1]; simp [World.setCell]
  have hc1 : c < w1.heap.size := by rw [hs1]; exact (Array.getElem?_eq_some_iff.1 hb).1
  have Hs1 := Lib.hid hs1
  clear hw1 hb hs1
  go_enter Tryd.func64, Tryd.ntmps64
  go_wp2
  rw [hF.out]
  clear hF
  refine wp_loop_rounds 4 ?_; rw [rounds_succ]
  go_wp2
  iterate 3 (rw [rounds_succ]; go_wp2)
  go_loopw [8, 9] (fun n i w9 => ∃ (j : Nat) (a : Int), 1 ≤ j ∧ j ≤ 8 ∧ i = .int .i64 j ∧ n = .int .i64 a ∧ Hid (a = A j) ∧ w9 = w) (fun _ i _ => 8 - (RowKit.intOf i).toNat)
  case atStart => exact ⟨1, (F : Int) % 64, by omega, by omega, by go_num, by go_num, Lib.hid H1.out.symm, rfl⟩
  case round =>
    obtain ⟨j, a, hj1, hj, rfl, rfl, ha, rfl⟩ := hrel
    by_cases hlt : j < 8
    · have hjs : j < s.size := by omega
      have hb := H3.out j hj1 hlt
      rw [← ha.out] at hb
      have hstep := Lib.hid (H2.out j hjs hj1 hlt)
      have hby := (s[j]'hjs).toNat_lt
      go_wp2
      go_roundw
      case rel => exact ⟨j + 1, a * 256 + ((s[j]'hjs).toNat : Int), by omega, by omega, by go_num, by go_num, Lib.hid (by rw [ha.out]; exact hstep.out.symm), by first | rfl | trivial⟩
      case measure => simp [RowKit.intOf]; omega
    · obtain rfl : j = 8 := by omega
      obtain rfl : a = (m : Int) := ha.out.trans hm.out
      clear ha
      go_wp2_with fail
      rw [← Hw1.out, hB.out]
      refine (refnum m w1 hm2.out).mono ?_
      rintro e w2 ⟨rfl, k2⟩
      have d2 : w2.cell? ⟨c, 1, none⟩ = some (.int .i64 0) := (k2.cell (p := ⟨c, 1, none⟩) hc1 (by show c ≠ _; omega)).trans d1
      have g2 : w2.frozen? ⟨c, 1, none⟩ = false := (k2.frozen (p := ⟨c, 1, none⟩) hc1 (by show c ≠ _; omega)).trans g1
      clear d1 g1
      rw [Hs1.out, Hw1.out] at k2
      have hx9 := hx.out
      clear hx
      rcases hx9 with ⟨rfl, hne⟩ | ⟨rfl, hne, hmo⟩ | ⟨rfl, hne, hmo⟩
      · go_wp2
        go_ret
        exact ⟨w2, k2, .inr ⟨by decide, rfl, rfl⟩⟩
      · go_wp2
        go_ret
        exact ⟨w2, k2, .inr ⟨by decide, rfl, rfl⟩⟩
      · go_wp2
        go_ret
        exact ⟨w2, k2, .inl ⟨rfl, rfl, rfl⟩⟩

end Go.Proofs.YtcjcomeakkjiiaaDoor

namespace Go.Proofs.YtcjcomeakkjiiaaDoor
open Go.RowKit

theorem numAcc (f : UInt8) (t : List UInt8) (hl : Wm.more f ≤ t.length) : NumAcc (str (f :: t)) f.toNat (Wm.more f + 1) (fun j => ((Wm.valOf (f.toNat % 64) (t.take (j - 1)) : Nat) : Int)) := by
  have hm := Wm.more_cases f
  refine ⟨by show ((Wm.valOf (f.toNat % 64) [] : Nat) : Int) = _; simp [Wm.valOf], fun j h h1 hj => ?_, fun j h1 hj => ?_⟩
  · obtain ⟨i, rfl⟩ : ∃ i, j = i + 1 := ⟨j - 1, by omega⟩
    have hi : i < t.length := by omega
    show ((Wm.valOf (f.toNat % 64) (t.take (i + 1)) : Nat) : Int) = ((Wm.valOf (f.toNat % 64) (t.take i) : Nat) : Int) * 256 + _
    rw [List.take_succ_eq_append_getElem hi, Wm.valOf_snoc, str_at _ _ h (by rw [List.length_cons]; omega), List.getElem_cons_succ]
    omega
  · obtain ⟨i, rfl⟩ : ∃ i, j = i + 1 := ⟨j - 1, by omega⟩
    refine ⟨Int.natCast_nonneg _, ?_⟩
    show ((Wm.valOf (f.toNat % 64) (t.take i) : Nat) : Int) < _
    have h6 : i ≤ 6 := by omega
    have hlen : (t.take i).length = i := by rw [List.length_take]; omega
    have h2 := Wm.valOf_lt (t.take i)
    rw [Wm.valOf_eq]
    rw [hlen] at h2 ⊢
    have h3 : f.toNat % 64 < 64 := Nat.mod_lt _ (by decide)
    have h4 : 256 ^ i ≤ 256 ^ 6 := Nat.pow_le_pow_right (by decide) h6
    have h5 : (f.toNat % 64 + 1) * 256 ^ i ≤ 64 * 256 ^ 6 := Nat.mul_le_mul (by omega) h4
    have h7 : f.toNat % 64 * 256 ^ i + Wm.valOf 0 (t.take i) < 64 * 256 ^ 6 := by
      rw [Nat.add_mul] at h5
      omega
    have h8 : (64 * 256 ^ 6 : Nat) = 18014398509481984 := by decide
    rw [h8] at h7
    exact Int.ofNat_lt.2 h7

theorem numrd_long (c : Nat) (f : UInt8) (t : List UInt8) (most : Int) (w : World) (hb : w.heap[c]? = some (.cells #[.string (str (f :: t)), .int .i64 0] 63 (0, 0))) (hl : Wm.more f ≤ t.length) (x : Int)
    (hx : Hid ((x = 3 ∧ (Wm.enc (Wm.nval f t) == f :: t.take (Wm.more f)) = false) ∨ (x = 5 ∧ (Wm.enc (Wm.nval f t) == f :: t.take (Wm.more f)) = true ∧ most < (Wm.nval f t : Int)) ∨ (x = 0 ∧ (Wm.enc (Wm.nval f t) == f :: t.take (Wm.more f)) = true ∧ (Wm.nval f t : Int) ≤ most))) :
    Calls Tryd.prog 64 #[.pointer (some ⟨c, 0, none⟩), .int .i64 most] w fun e w' => NumRd w c (str (f :: t)) (Wm.more f + 1) (Wm.nval f t) x e w' := by
  have hA := numAcc f t hl
  have hsz : (str (f :: t)).size = t.length + 1 := by rw [str_size, List.length_cons]
  have hz : ((str (f :: t)).size == 0) = false := by rw [hsz]; simp
  have hz2 : 0 < (str (f :: t)).size := by omega
  have h256 := f.toNat_lt
  have hF : Hid (wrap64 (((str (f :: t))[0]'hz2).toNat : Int) = (f.toNat : Int)) := Lib.hid (by
    rw [str_at _ _ hz2 (by simp)]
    exact IntWalk.wrap64_in (f.toNat : Int) ⟨by omega, by omega⟩)
  have hB : Hid ((str (f :: t)).extract 0 (Wm.more f + 1) = str (f :: t.take (Wm.more f))) := Lib.hid (by rw [str_take, List.take_succ_cons])
  have hm : Hid (((Wm.valOf (f.toNat % 64) (t.take (Wm.more f + 1 - 1)) : Nat) : Int) = (Wm.nval f t : Int)) := Lib.hid rfl
  have hm2 : Hid (Wm.nval f t ≤ 4611686018427387903) := Lib.hid (Wm.nval_max f t hl)
  rcases Wm.more_cases f with ⟨hq, hk⟩ | ⟨hq, hk⟩ | ⟨hq, hk⟩ | ⟨hq, hk⟩
  · rw [hk] at hA hB hm hx hl ⊢
    exact numrd_long0 c _ f.toNat most w hb hz hz2 hF (by omega) (by omega) (by omega) (by omega) _ hA _ hm hm2 x _ hB hx
  · rw [hk] at hA hB hm hx hl ⊢
    exact numrd_long1 c _ f.toNat most w hb hz hz2 hF (by omega) (by omega) (by omega) (by omega) _ hA _ hm hm2 x _ hB hx
  · rw [hk] at hA hB hm hx hl ⊢
    exact numrd_long2 c _ f.toNat most w hb hz hz2 hF (by omega) (by omega) (by omega) (by omega) _ hA _ hm hm2 x _ hB hx
  · rw [hk] at hA hB hm hx hl ⊢
    exact numrd_long3 c _ f.toNat most w hb hz hz2 hF (by omega) (by omega) (by omega) (by omega) _ hA _ hm hm2 x _ hB hx

theorem numrd_short (c : Nat) (f : UInt8) (t : List UInt8) (most : Int) (w : World) (hb : w.heap[c]? = some (.cells #[.string (str (f :: t)), .int .i64 0] 63 (0, 0))) (hl : t.length < Wm.more f) :
    Calls Tryd.prog 64 #[.pointer (some ⟨c, 0, none⟩), .int .i64 most] w fun e w' => e = .returned (.int .i64 0) ∧ w.setCell ⟨c, 1, none⟩ (.int .i64 2) = w' := by
  have hsz : (str (f :: t)).size = t.length + 1 := by rw [str_size, List.length_cons]
  have hz : ((str (f :: t)).size == 0) = false := by rw [hsz]; simp
  have hz2 : 0 < (str (f :: t)).size := by omega
  have h256 := f.toNat_lt
  have hF : Hid (wrap64 (((str (f :: t))[0]'hz2).toNat : Int) = (f.toNat : Int)) := Lib.hid (by
    rw [str_at _ _ hz2 (by simp)]
    exact IntWalk.wrap64_in (f.toNat : Int) ⟨by omega, by omega⟩)
  rcases Wm.more_cases f with ⟨hq, hk⟩ | ⟨hq, hk⟩ | ⟨hq, hk⟩ | ⟨hq, hk⟩
  · omega
  · exact numrd_short1 c _ f.toNat most w (two_cell0 hb) (two_cell1 hb) (two_free hb 1) hz hz2 hF (by omega) (by omega) (by omega)
  · exact numrd_short2 c _ f.toNat most w (two_cell0 hb) (two_cell1 hb) (two_free hb 1) hz hz2 hF (by omega) (by omega) (by omega)
  · exact numrd_short3 c _ f.toNat most w (two_cell0 hb) (two_cell1 hb) (two_free hb 1) hz hz2 hF (by omega) (by omega) (by omega)

/-- A number answered, and the document's own reader behind it. -/
def NumFin (w : World) (c : Nat) (r : Wm.Got Int) (e : Ending) (w' : World) : Prop := e = .returned (.int .i64 r.val) ∧ Rf w' c r.left r.err ∧ Kept w.heap.size c w w'

theorem numrd_fin (c : Nat) (f : UInt8) (t : List UInt8) (w : World) (hb : w.heap[c]? = some (.cells #[.string (str (f :: t)), .int .i64 0] 63 (0, 0))) (x : Int) (e : Ending) (w' : World)
    (h : NumRd w c (str (f :: t)) (Wm.more f + 1) (Wm.nval f t) x e w') : NumFin w c (if x = 0 then ⟨Wm.nval f t, t.drop (Wm.more f), 0⟩ else ⟨0, [], x⟩) e w' := by
  obtain ⟨w2, k2, h⟩ := h
  have hc := (Array.getElem?_eq_some_iff.1 hb).1
  have hb2 : w2.heap[c]? = some (.cells #[.string ((str (f :: t)).extract (Wm.more f + 1) (str (f :: t)).size), .int .i64 0] 63 (0, 0)) := (k2.block c hc (by omega)).trans (two_set0 hb)
  have kk : Kept w.heap.size c w w2 := ((Kept.refl _ _ _).set (.inl rfl) 0 _).trans (k2.mono (Nat.le_refl _) (fun k hk _ => by omega))
  rcases h with ⟨rfl, rfl, rfl⟩ | ⟨hx, rfl, rfl⟩
  · rw [if_pos rfl]
    exact ⟨rfl, ⟨⟨_, hb2, fun _ => by rw [str_drop, List.drop_succ_cons]⟩, fun h => absurd rfl h⟩, kk⟩
  · rw [if_neg hx]
    exact ⟨rfl, Rf.setErr x hx hb2, kk.set (.inl rfl) 1 _⟩

theorem numrd_all (c : Nat) (l : List UInt8) (e0 most : Int) (w : World) (h : Rf w c l e0) :
    Calls Tryd.prog 64 #[.pointer (some ⟨c, 0, none⟩), .int .i64 most] w fun e w' => NumFin w c (gNum l e0 most) e w' := by
  unfold gNum
  split
  · rename_i he
    subst he
    obtain ⟨s, hb, hs⟩ := h.ex
    obtain rfl := hs rfl
    cases l with
    | nil =>
      refine (numrd_empty c most w (two_cell0 hb) (two_cell1 hb) (two_free hb 1)).mono ?_
      rintro e w' ⟨rfl, rfl⟩
      exact ⟨rfl, Rf.setErr 2 (by decide) hb, (Kept.refl _ _ _).set (.inl rfl) 1 _⟩
    | cons f t =>
      rw [Wm.rNum]
      split
      · rename_i hl
        refine (numrd_short c f t most w hb hl).mono ?_
        rintro e w' ⟨rfl, rfl⟩
        exact ⟨rfl, Rf.setErr 2 (by decide) hb, (Kept.refl _ _ _).set (.inl rfl) 1 _⟩
      · rename_i hl
        have hl2 : Wm.more f ≤ t.length := by omega
        split
        · rename_i hls
          have hne := Wm.enc_nval_ne f t hl2 hls
          refine (numrd_long c f t most w hb hl2 3 (Lib.hid (.inl ⟨rfl, by simpa using hne⟩))).mono ?_
          rintro e w' h9
          exact numrd_fin c f t w hb 3 e w' h9
        · rename_i hls
          have heq := Wm.enc_nval f t hl2 (by simpa using hls)
          split
          · rename_i hmost
            refine (numrd_long c f t most w hb hl2 5 (Lib.hid (.inr (.inl ⟨rfl, by simpa using heq, hmost⟩)))).mono ?_
            rintro e w' h9
            exact numrd_fin c f t w hb 5 e w' h9
          · rename_i hmost
            refine (numrd_long c f t most w hb hl2 0 (Lib.hid (.inr (.inr ⟨rfl, by simpa using heq, by omega⟩)))).mono ?_
            rintro e w' h9
            exact numrd_fin c f t w hb 0 e w' h9
  · rename_i he
    obtain rfl := h.fail he
    refine (numrd_failed c e0 most w h.err (by simpa using he)).mono ?_
    rintro e w' ⟨rfl, rfl⟩
    exact ⟨rfl, h, Kept.refl _ _ _⟩

/-! ## Text -/

end Go.Proofs.YtcjcomeakkjiiaaDoor

namespace Go.Proofs.YtcjcomeakkjiiaaDoor
open Go.RowKit

theorem gNum_val (l : List UInt8) (e most : Int) : 0 ≤ (gNum l e most).val := by
  unfold gNum
  split
  · exact (Wm.rNum_val l most).1
  · exact Int.le_refl 0

theorem endrd_all (c : Nat) (l : List UInt8) (e0 : Int) (w : World) (h : Rf w c l e0) :
    Calls Tryd.prog 39 #[.pointer (some ⟨c, 0, none⟩)] w fun e w' => e = .returned (.int .i64 (gEnd l e0)) ∧ w' = w := by
  obtain ⟨s, hb, hs⟩ := h.ex
  have c0 := two_cell0 hb
  have c1 := two_cell1 hb
  unfold gEnd
  by_cases h0 : e0 = 0
  · subst h0
    obtain rfl := hs rfl
    rw [if_pos rfl]
    have hsz := str_size l
    by_cases hl : l = []
    · subst hl
      rw [if_pos rfl]
      clear hb hs h
      go_enter Tryd.func39, Tryd.ntmps39
      go_wp2
      go_ret
      exact ⟨rfl, rfl⟩
    · rw [if_neg hl]
      have hpos : 0 < (str l).size := by rw [hsz]; exact List.length_pos_iff.2 hl
      clear hb hs h hsz
      go_enter Tryd.func39, Tryd.ntmps39
      go_wp2
      go_ret
      exact ⟨rfl, rfl⟩
  · rw [if_neg h0]
    have hx : (e0 != 0) = true := by simpa using h0
    clear hb hs h
    go_enter Tryd.func39, Tryd.ntmps39
    go_wp2
    go_ret
    exact ⟨rfl, rfl⟩

/-! ## Flag -/
def FlagFin (w : World) (c : Nat) (r : Wm.Got Bool) (e : Ending) (w' : World) : Prop := e = .returned (.bool r.val) ∧ Rf w' c r.left r.err ∧ Kept w.heap.size c w w'
end Go.Proofs.YtcjcomeakkjiiaaDoor

namespace Go.Proofs.YtcjcomeakkjiiaaDoor
open Go.RowKit

theorem wireInfo29 : (Tryd.prog.info? 22).map (·.size) = some 32 := by kernel_rfl

/-- Thirty-two bytes, the first of them laid. -/
def laid32 (v : List UInt8) (j : Nat) : List UInt8 := v.take j ++ (List.replicate 32 (0 : UInt8)).drop j
theorem laid32_zero (v : List UInt8) : laid32 v 0 = List.replicate 32 0 := by simp [laid32]
theorem laid32_length (v : List UInt8) (j : Nat) (hj : j ≤ v.length) (h32 : j ≤ 32) : (laid32 v j).length = 32 := by
  simp [laid32]; omega
theorem laid32_all (v : List UInt8) (h : v.length = 32) : laid32 v 32 = v := by
  rw [laid32, List.take_of_length_le (by omega), List.drop_eq_nil_of_le (by simp), List.append_nil]
theorem laid32_set (v : List UInt8) (j : Nat) (hj : j < v.length) (h32 : j < 32) : (laid32 v j).set j v[j] = laid32 v (j + 1) := by
  unfold laid32
  have h1 : (v.take j).length = j := by rw [List.length_take]; omega
  rw [List.set_append_right _ _ (by omega), h1, Nat.sub_self, List.drop_eq_getElem_cons (by simpa using h32), List.set_cons_zero, List.take_succ_eq_append_getElem hj, List.append_assoc]
  rfl
theorem bcells_set (l : List UInt8) (j : Nat) (b : UInt8) : (bcells l).set j (.int .u8 b.toNat) = bcells (l.set j b) := by
  simp [bcells, List.map_set]

def HashFin (w : World) (c : Nat) (r : Wm.Got (List UInt8)) (e : Ending) (w' : World) : Prop := e = .returned (.agg (bcells r.val).toArray) ∧ Rf w' c r.left r.err ∧ Kept w.heap.size c w w'

/-- What Hash makes of what Raw answered. -/
theorem hash_raw (l : List UInt8) (e : Int) : gHash l e = ⟨laid32 (gRaw l e 32).val (gRaw l e 32).val.length, (gRaw l e 32).left, (gRaw l e 32).err⟩ ∧ ((gRaw l e 32).val.length ≤ 32) := by
  unfold gHash gRaw
  by_cases he : e = 0
  · rw [if_pos he, if_pos he]
    unfold Wm.rRaw
    by_cases hl : l.length < 32
    · rw [if_pos hl, if_pos hl]
      exact ⟨rfl, by decide⟩
    · rw [if_neg hl, if_neg hl]
      have h1 : (l.take 32).length = 32 := by rw [List.length_take]; omega
      refine ⟨?_, by show (l.take 32).length ≤ 32; omega⟩
      show _ = (⟨laid32 (l.take 32) (l.take 32).length, l.drop 32, 0⟩ : Wm.Got _)
      rw [h1, laid32_all _ h1]
  · rw [if_neg he, if_neg he]
    exact ⟨rfl, Nat.zero_le _⟩

set_option maxHeartbeats 1600000 in
theorem hashrd_all (c : Nat) (l : List UInt8) (e0 : Int) (w : World) (h : Rf w c l e0) :
    Calls Tryd.prog 63 #[.pointer (some ⟨c, 0, none⟩)] w fun e w' => HashFin w c (gHash l e0) e w' := by
  obtain ⟨hraw, hlen⟩ := hash_raw l e0
  rw [hraw]
  have hcall := fun (w' : World) (h' : Rf w' c l e0) => refraw_all c l e0 32 w' h'
  generalize gRaw l e0 32 = r at *
  have Hcall := Lib.hid hcall
  clear hraw hcall
  obtain ⟨v, hv⟩ : ∃ v, v = r.val := ⟨_, rfl⟩
  have hcw := h.lt
  go_enter Tryd.func63, Tryd.ntmps63
  go_wp2_with fail
  rw [zeros32_eq]
  have hA : ((w.alloc (.cells zeros32 22)).alloc (.cells zeros32 22)).heap[w.heap.size]? = some (.cells zeros32 22 (0, 0)) := heap_alloc2_old w _ _
  have hB : ((w.alloc (.cells zeros32 22)).alloc (.cells zeros32 22)).heap[w.heap.size + 1]? = some (.cells zeros32 22 (0, 0)) := heap_alloc2_new w _ _
  have hK : Kept w.heap.size w.heap.size w ((w.alloc (.cells zeros32 22)).alloc (.cells zeros32 22)) := ((Kept.refl _ _ _).alloc (Nat.le_refl _) _).alloc (by simp) _
  have hR := h.kept hK hcw (by omega)
  generalize (w.alloc (.cells zeros32 22)).alloc (.cells zeros32 22) = w2 at hA hB hK hR ⊢
  have hsz := lt_of_block hB
  refine (Hcall.out _ hR).mono ?_
  rintro e w3 ⟨rfl, h3, k3⟩
  rw [← hv]
  rw [← hv] at hlen
  have hA := (k3.block w.heap.size (by omega) (by omega)).trans hA
  have hB := (k3.block (w.heap.size + 1) (by omega) (by omega)).trans hB
  have hK := (hK.mono (base' := w.heap.size) (b' := c) (Nat.le_refl _) (fun k hk _ => by omega)).trans (k3.mono (by omega) (fun _ _ h => h))
  have hsv := str_size v
  have Hv := Lib.hid hv
  clear hv hR h
  have HA := Lib.hid hA
  have HB := Lib.hid hB
  clear hA hB
  have hz3 : w.heap.size + 1 < w3.heap.size := lt_of_block HB.out
  clear k3
  go_wp2_with fail
  go_loopw [5] (fun i w9 => ∃ j : Nat, j ≤ v.length ∧ i = .int .i64 j ∧ Hid (w9.heap[w.heap.size + 1]? = some (.cells (bcells (laid32 v j)).toArray 22 (0, 0))) ∧ Hid (w9.heap[w.heap.size]? = some (.cells zeros32 22 (0, 0))) ∧ Rf w9 c r.left r.err ∧ Kept w.heap.size c w w9) (fun i _ => v.length - (RowKit.intOf i).toNat)
  case atStart => exact ⟨0, by omega, rfl, Lib.hid (by rw [laid32_zero]; exact HB.out), HA, h3, hK⟩
  case round =>
    obtain ⟨j, hj, rfl, hB9, hA9, h9, k9⟩ := hrel
    by_cases hlt : j < v.length
    · have hjs : j < (str v).size := by omega
      have hll : (bcells (laid32 v j)).length = 32 := by rw [bcells_length, laid32_length v j hj (by omega)]
      have cj := cells_at hB9.out j (by omega)
      have fj := cells_free hB9.out j
      have hset := Lib.hid (cells_set hB9.out j (.int .u8 (v[j]).toNat))
      have hat := str_at v j hjs hlt
      have k10 := k9.set (b' := w.heap.size + 1) (.inr (by omega)) j (.int .u8 (v[j]).toNat)
      have h10 := h9.same (w' := wr.setCell ⟨w.heap.size + 1, j, none⟩ (.int .u8 (v[j]).toNat)) (setCell_other _ _ _ _ _ (by omega))
      have hA10 := Lib.hid ((setCell_other wr (w.heap.size + 1) j (.int .u8 (v[j]).toNat) w.heap.size (by omega)).trans hA9.out)
      rw [bcells_set, laid32_set v j hlt (by omega)] at hset
      go_wp2
      go_roundw
      case rel => exact ⟨j + 1, by omega, by go_num, hset, hA10, h10, k10⟩
      case measure => simp [RowKit.intOf]; omega
    · obtain rfl : j = v.length := by omega
      have hone := bcells_all (laid32 v v.length)
      have hsz2 : (bcells (laid32 v v.length)).toArray.size = 32 := by
        simp only [List.size_toArray, bcells_length]
        exact laid32_length v v.length (Nat.le_refl _) hlen
      have hzs := zeros32_size
      generalize hq : (bcells (laid32 v v.length)).toArray = q at *
      go_wp2_with (first | (with_reducible refine wpList_load_row rfl 22 _ rfl (w.heap.size + 1) rfl 22 q (0, 0) _ hB9.out Tryd.underlying22 rfl (by rw [wireInfo29, hsz2]) ?_) | (with_reducible refine wpList_store_row rfl 22 _ _ rfl w.heap.size q rfl rfl 22 _ hA9.out (by rw [wireInfo29, hsz2]) (by rw [hsz2, hzs]) hone ?_))
      have t2 : (wr.setRow w.heap.size q).heap[w.heap.size]? = some (.cells q 22 (0, 0)) := setRow_heap wr w.heap.size zeros32 q _ _ hA9.out
      have t1 : Kept w.heap.size c w (wr.setRow w.heap.size q) := k9.trans ⟨rfl, rfl, rfl, by simp [World.setRow], fun k hk _ => setRow_other wr w.heap.size k q (by omega)⟩
      have t3 : Rf (wr.setRow w.heap.size q) c r.left r.err := h9.same (setRow_other wr w.heap.size c q (by omega))
      refine bodyPost_ret (results_cell_row rfl _ _ w.heap.size 22 q (0, 0) _ rfl t2 Tryd.underlying22 rfl (by rw [wireInfo29, hsz2])) rfl ?_
      refine ⟨?_, t3, t1⟩
      rw [← hq, Hv.out]

end Go.Proofs.YtcjcomeakkjiiaaDoor
