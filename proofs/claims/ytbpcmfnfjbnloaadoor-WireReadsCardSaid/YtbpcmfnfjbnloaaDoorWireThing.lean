/-
  A thing that is put, as the statements have it: what the document says its bytes are, and the law's own function 'put' over a writer that may be nil.
-/
import Derived.Test.YtbpcmfnfjbnloaaDoorWireAwake
import Derived.Deep.MidRow
namespace Go.Proofs.YtbpcmfnfjbnloaaDoor
open Go.RowKit

/-- A thing: its kind, number, text, digest, flag. -/
structure Th where
  kind : Nat
  n : Int
  s : ByteArray
  h : List UInt8
  b : Bool
/-- It is one that can be read. -/
structure Th.Ok (t : Th) : Prop where
  kind : t.kind < 256
  s : t.s.size ≤ 9223372036854775807
  h : t.h.length = 32
/-- Its cells. -/
def Th.cells (t : Th) : List Value := .int .u8 t.kind :: .int .i64 t.n :: .string t.s :: (bcells t.h ++ [.bool t.b])
/-- Its bytes, if it can be put. -/
def Th.bytes (t : Th) : Option (List UInt8) :=
  if t.kind % 4 = 0 then (if 0 ≤ t.n ∧ t.n ≤ 4611686018427387903 then some (Wm.enc t.n.toNat) else none)
  else if t.kind % 4 = 1 then (if t.s.size ≤ 65536 then some (Wm.enc t.s.size ++ t.s.data.toList) else none)
  else if t.kind % 4 = 2 then some t.h else some [if t.b then 1 else 0]
/-- What putting it makes of a writer's bytes. -/
def pTh (st : Option (List UInt8)) (t : Th) : Option (List UInt8) := t.bytes.bind fun x => st.map (· ++ x)

theorem Th.cells_length (t : Th) (h : t.Ok) : t.cells.length = 36 := by
  simp [Th.cells, bcells_length, h.h]
theorem Th.cell0 (t : Th) : t.cells.toArray[0]? = some (.int .u8 t.kind) := by simp [Th.cells]
theorem Th.cell1 (t : Th) : t.cells.toArray[1]? = some (.int .i64 t.n) := by simp [Th.cells]
theorem Th.cell2 (t : Th) : t.cells.toArray[2]? = some (.string t.s) := by simp [Th.cells]
theorem Th.cellB (t : Th) (h : t.Ok) : t.cells.toArray[35]? = some (.bool t.b) := by
  have e : (bcells t.h).length = 32 := by rw [bcells_length, h.h]
  simp only [Th.cells, List.getElem?_toArray]
  rw [show (35 : Nat) = 32 + 3 from rfl]
  simp only [List.getElem?_cons_succ]
  rw [List.getElem?_append_right (by omega), e]
  rfl
theorem Th.cellH (t : Th) (j : Nat) (v : Value) (hv : (bcells t.h)[j]? = some v) : t.cells.toArray[3 + j]? = some v := by
  have hj : j < (bcells t.h).length := (List.getElem?_eq_some_iff.1 hv).1
  simp only [Th.cells, List.getElem?_toArray]
  rw [Nat.add_comm]
  simp only [List.getElem?_cons_succ]
  rw [List.getElem?_append_left hj, hv]

theorem Th.bytes_le (t : Th) (h : t.Ok) (l : List UInt8) (hl : t.bytes = some l) : l.length ≤ 65544 := by
  unfold Th.bytes at hl
  split at hl
  · split at hl
    · cases hl; have := Wm.enc_length_le t.n.toNat; omega
    · cases hl
  · split at hl
    · split at hl
      · cases hl
        have := Wm.enc_length_le t.s.size
        rw [List.length_append]
        have e : t.s.data.toList.length = t.s.size := by simp
        omega
      · cases hl
    · split at hl
      · cases hl; rw [h.h]; omega
      · cases hl; simp
theorem short_th (st : Option (List UInt8)) (t : Th) (ht : t.Ok) (k : Nat) (h : Short st k) : Short (pTh st t) (k + 65544) := by
  intro l hl
  unfold pTh at hl
  cases hb : t.bytes with
  | none => rw [hb] at hl; cases hl
  | some x =>
    rw [hb] at hl
    have := t.bytes_le ht x hb
    have := short_raw st x k h l hl
    omega

/-- What 'put' answers. -/
def PutPost (w : World) (base b : Nat) (p : Value) (st : Option (List UInt8)) (t : Th) (e : Ending) (w' : World) : Prop :=
  e = .returned (.tuple #[.string (str (t.bytes.getD [])), .bool t.bytes.isSome]) ∧ WrV w' base b p (pTh st t) ∧ Kept base b w w'

theorem box_kept (w w1 : World) (cs : Array Value) (b j : Nat) (v : Value) (hv : cs[j]? = some v) (hb : b ≠ w.heap.size) (hf : Fr b (w.alloc (.cells cs 32)) w1) : w1.cell? ⟨w.heap.size, j, none⟩ = some v := by
  have h := hf w.heap.size _ (heap_new w (.cells cs 32)) hb.symm (fun cs fr e => by cases e)
  simp [World.cell?, h, hv]

theorem WrV.kept2 {w w' : World} {base b : Nat} {p : Value} {st : Option (List UInt8)} (h : WrV w base b p st) (k : Kept w.heap.size w.heap.size w w') : WrV w' base b p st := by
  rcases h with ⟨h1, h2, h3, h4⟩ | ⟨h1, h⟩
  · exact .inl ⟨h1, h2, Nat.le_trans h3 k.size, h4⟩
  · exact .inr ⟨h1, h.same k.size (k.block b (by have := h.lt; have := h.le; omega) (by have := h.lt; have := h.le; omega)) (fun i _ hi => k.block i hi (by omega))⟩

theorem put_num (base b : Nat) (p : Value) (st : Option (List UInt8)) (t : Th) (ok : t.Ok) (w : World) (h : WrV w base b p st) (hb : b ≠ w.heap.size) (ht : Tab w) (hlen : Short st 700000000) (hk : t.kind % 4 = 0) :
    Calls Tryd.prog 14 #[p, .agg t.cells.toArray] w fun e w' => PutPost w base b p st t e w' := by
  have c0 := t.cell0
  have c1 := t.cell1
  have hle := h.le
  have h1 := h.alloc (.cells t.cells.toArray 32)
  have hkept := (Kept.refl base b w).alloc hle (.cells t.cells.toArray 32)
  have ht1 : Tab (w.alloc (.cells t.cells.toArray 32)) := ht.same (Below.heap_alloc _ _ _ ht.lt)
  have Hbk := Lib.hid (fun (w1 : World) (j : Nat) (v : Value) (hv : t.cells.toArray[j]? = some v) (hf : Fr b (w.alloc (.cells t.cells.toArray 32)) w1) => box_kept w w1 t.cells.toArray b j v hv hb hf)
  have hkind := ok.kind
  have hmod : (t.kind : Int) % 4 = 0 := by omega
  by_cases hn : 0 ≤ t.n ∧ t.n ≤ 4611686018427387903
  · have HB := Lib.hid (show t.bytes = some (Wm.enc t.n.toNat) by rw [Th.bytes, if_pos hk, if_pos hn])
    have HP := Lib.hid (show pNum st t.n = pTh st t by rw [pTh, HB.out, pNum, if_pos hn]; rfl)
    obtain ⟨m, hm⟩ := Int.eq_ofNat_of_zero_le hn.1
    have hm2 : m ≤ 4611686018427387903 := by omega
    have HM := Lib.hid (show t.n.toNat = m by omega)
    rw [hm] at c1 HP
    clear hm hn hk
    generalize hcs : t.cells.toArray = cs at *
    clear hcs
    go_enter Tryd.func14, Tryd.ntmps14
    go_wp2_with fail
    refine (wnum_f base b p st m _ h1 ht1 (fun l hl => by have := hlen l hl; omega)).mono ?_
    rintro e w1 ⟨rfl, h2, k2, f2⟩
    have c1' := Hbk.out w1 1 _ c1 f2
    have hs1 := h2.le
    go_wp2_with fail
    refine (refnum m _ hm2).mono ?_
    rintro e w2 ⟨rfl, k3⟩
    go_wp2
    go_ret2
    refine ⟨by rw [HB.out, HM.out]; rfl, ?_, hkept.trans (k2.trans (k3.mono hs1 (fun k hk _ => by omega)))⟩
    rw [← HP.out]
    exact h2.kept2 k3
  · have HB := Lib.hid (show t.bytes = none by rw [Th.bytes, if_pos hk, if_neg hn])
    have HP := Lib.hid (show pNum st t.n = pTh st t by rw [pTh, HB.out, pNum, if_neg hn]; rfl)
    clear hk
    generalize hcs : t.cells.toArray = cs at *
    clear hcs
    have hn' : t.n < 0 ∨ (¬ t.n < 0 ∧ 4611686018427387903 < t.n) := by omega
    clear hn
    rcases hn' with hn | ⟨hn0, hn⟩
    all_goals
      go_enter Tryd.func14, Tryd.ntmps14
      go_wp2_with fail
      refine (wnum_f base b p st t.n _ h1 ht1 (fun l hl => by have := hlen l hl; omega)).mono ?_
      rintro e w1 ⟨rfl, h2, k2, f2⟩
      have c1' := Hbk.out w1 1 _ c1 f2
      have hs1 := h2.le
      go_wp2
      go_ret2
      refine ⟨by rw [HB.out]; rfl, ?_, hkept.trans k2⟩
      rw [← HP.out]
      exact h2

theorem put_text (base b : Nat) (p : Value) (st : Option (List UInt8)) (t : Th) (ok : t.Ok) (w : World) (h : WrV w base b p st) (hb : b ≠ w.heap.size) (ht : Tab w) (hlen : Short st 700000000) (hk : t.kind % 4 = 1) :
    Calls Tryd.prog 14 #[p, .agg t.cells.toArray] w fun e w' => PutPost w base b p st t e w' := by
  have c0 := t.cell0
  have c2 := t.cell2
  have hle := h.le
  have h1 := h.alloc (.cells t.cells.toArray 32)
  have hkept := (Kept.refl base b w).alloc hle (.cells t.cells.toArray 32)
  have ht1 : Tab (w.alloc (.cells t.cells.toArray 32)) := ht.same (Below.heap_alloc _ _ _ ht.lt)
  have Hbk := Lib.hid (fun (w1 : World) (j : Nat) (v : Value) (hv : t.cells.toArray[j]? = some v) (hf : Fr b (w.alloc (.cells t.cells.toArray 32)) w1) => box_kept w w1 t.cells.toArray b j v hv hb hf)
  have hkind := ok.kind
  have hmod : (t.kind : Int) % 4 = 1 := by omega
  have hsz := ok.s
  have hlen2 : t.s.data.toList.length = t.s.size := by simp
  by_cases hn : t.s.size ≤ 65536
  · have HB := Lib.hid (show t.bytes = some (Wm.enc t.s.size ++ t.s.data.toList) by rw [Th.bytes, if_neg (by omega), if_pos hk, if_pos hn])
    have HP := Lib.hid (show pText st t.s.data.toList = pTh st t by rw [pTh, HB.out, pText, hlen2, if_pos hn]; rfl)
    clear hk hlen2
    generalize hcs : t.cells.toArray = cs at *
    clear hcs
    go_enter Tryd.func14, Tryd.ntmps14
    go_wp2_with fail
    refine (wtext_f base b p st t.s _ h1 ht1 hsz (fun l hl => by have := hlen l hl; omega)).mono ?_
    rintro e w1 ⟨rfl, h2, k2, f2⟩
    have c2' := Hbk.out w1 2 _ c2 f2
    have hs1 := h2.le
    go_wp2_with fail
    refine (reftext t.s _ hn).mono ?_
    rintro e w2 ⟨rfl, k3⟩
    go_wp2
    go_ret2
    refine ⟨by rw [HB.out]; rfl, ?_, hkept.trans (k2.trans (k3.mono hs1 (fun k hk _ => by omega)))⟩
    rw [← HP.out]
    exact h2.kept2 k3
  · have HB := Lib.hid (show t.bytes = none by rw [Th.bytes, if_neg (by omega), if_pos hk, if_neg hn])
    have HP := Lib.hid (show pText st t.s.data.toList = pTh st t by rw [pTh, HB.out, pText, hlen2, if_neg hn]; rfl)
    clear hk hlen2
    generalize hcs : t.cells.toArray = cs at *
    clear hcs
    go_enter Tryd.func14, Tryd.ntmps14
    go_wp2_with fail
    refine (wtext_f base b p st t.s _ h1 ht1 hsz (fun l hl => by have := hlen l hl; omega)).mono ?_
    rintro e w1 ⟨rfl, h2, k2, f2⟩
    have c2' := Hbk.out w1 2 _ c2 f2
    have hs1 := h2.le
    go_wp2
    go_ret2
    refine ⟨by rw [HB.out]; rfl, ?_, hkept.trans k2⟩
    rw [← HP.out]
    exact h2

theorem put_hash (base b : Nat) (p : Value) (st : Option (List UInt8)) (t : Th) (ok : t.Ok) (w : World) (h : WrV w base b p st) (hb : b ≠ w.heap.size) (ht : Tab w) (hlen : Short st 700000000) (hk : t.kind % 4 = 2) :
    Calls Tryd.prog 14 #[p, .agg t.cells.toArray] w fun e w' => PutPost w base b p st t e w' := by
  have c0 := t.cell0
  have cH := t.cellH
  have CH := Lib.hid cH
  clear cH
  have hle := h.le
  have h1 := h.alloc (.cells t.cells.toArray 32)
  have hkept := (Kept.refl base b w).alloc hle (.cells t.cells.toArray 32)
  have ht1 : Tab (w.alloc (.cells t.cells.toArray 32)) := ht.same (Below.heap_alloc _ _ _ ht.lt)
  have Hbk := Lib.hid (fun (w1 : World) (j : Nat) (v : Value) (hv : t.cells.toArray[j]? = some v) (hf : Fr b (w.alloc (.cells t.cells.toArray 32)) w1) => box_kept w w1 t.cells.toArray b j v hv hb hf)
  have hkind := ok.kind
  have hmod : (t.kind : Int) % 4 = 2 := by omega
  have HB := Lib.hid (show t.bytes = some t.h by rw [Th.bytes, if_neg (by omega), if_neg (by omega), if_pos hk])
  have HP := Lib.hid (show pRaw st t.h = pTh st t by rw [pTh, HB.out]; rfl)
  have hh := ok.h
  have hbl : (bcells t.h).length = 32 := by rw [bcells_length, hh]
  have hr0 : (w.alloc (.cells t.cells.toArray 32)).rangeAt w.heap.size 3 (bcells t.h) := fun j v hv => Hbk.out _ _ _ (CH.out j v hv) (Fr.refl _ _)
  have Hr0 := Lib.hid hr0
  clear hk hr0
  generalize hcs : t.cells.toArray = cs at *
  clear hcs
  go_enter Tryd.func14, Tryd.ntmps14
  go_wp2_with (with_reducible refine wpList_load_mid rfl 30 _ rfl w.heap.size 3 rfl (bcells t.h) _ Hr0.out Tryd.underlying30 rfl (by rw [wireInfo30, hbl]) ?_)
  refine (whash_f base b p st t.h hh _ h1 (fun l hl => by have := hlen l hl; omega)).mono ?_
  rintro e w1 ⟨rfl, h2, k2, f2⟩
  have Hr1 : Hid (w1.rangeAt w.heap.size 3 (bcells t.h)) := Lib.hid (fun j v hv => Hbk.out w1 _ _ (CH.out j v hv) f2)
  have hs1 := h2.le
  go_wp2_with (with_reducible refine wpList_load_mid rfl 30 _ rfl w.heap.size 3 rfl (bcells t.h) _ Hr1.out Tryd.underlying30 rfl (by rw [wireInfo30, hbl]) ?_)
  refine (refhash t.h hh _).mono ?_
  rintro e w2 ⟨rfl, k3⟩
  go_wp2
  go_ret2
  refine ⟨by rw [HB.out]; rfl, ?_, hkept.trans (k2.trans (k3.mono hs1 (fun k hk _ => by omega)))⟩
  rw [← HP.out]
  exact h2.kept2 k3

theorem put_flag (base b : Nat) (p : Value) (st : Option (List UInt8)) (t : Th) (ok : t.Ok) (w : World) (h : WrV w base b p st) (hb : b ≠ w.heap.size) (ht : Tab w) (hlen : Short st 700000000) (hk : t.kind % 4 = 3) :
    Calls Tryd.prog 14 #[p, .agg t.cells.toArray] w fun e w' => PutPost w base b p st t e w' := by
  have c0 := t.cell0
  have cB := t.cellB ok
  have hle := h.le
  have h1 := h.alloc (.cells t.cells.toArray 32)
  have hkept := (Kept.refl base b w).alloc hle (.cells t.cells.toArray 32)
  have ht1 : Tab (w.alloc (.cells t.cells.toArray 32)) := ht.same (Below.heap_alloc _ _ _ ht.lt)
  have Hbk := Lib.hid (fun (w1 : World) (j : Nat) (v : Value) (hv : t.cells.toArray[j]? = some v) (hf : Fr b (w.alloc (.cells t.cells.toArray 32)) w1) => box_kept w w1 t.cells.toArray b j v hv hb hf)
  have hkind := ok.kind
  have hmod : (t.kind : Int) % 4 = 3 := by omega
  have HB := Lib.hid (show t.bytes = some [if t.b then 1 else 0] by rw [Th.bytes, if_neg (by omega), if_neg (by omega), if_neg (by omega)])
  have HP := Lib.hid (show pRaw st [if t.b then 1 else 0] = pTh st t by rw [pTh, HB.out]; rfl)
  clear hk
  generalize hcs : t.cells.toArray = cs at *
  clear hcs
  go_enter Tryd.func14, Tryd.ntmps14
  go_wp2_with fail
  refine (wflag_f base b p st t.b _ h1 (fun l hl => by have := hlen l hl; omega)).mono ?_
  rintro e w1 ⟨rfl, h2, k2, f2⟩
  have cB' := Hbk.out w1 35 _ cB f2
  have hs1 := h2.le
  go_wp2_with fail
  refine (refflag t.b _).mono ?_
  rintro e w2 ⟨rfl, rfl⟩
  obtain ⟨y, hy⟩ : ∃ y : UInt8, y = (if t.b = true then 1 else 0) := ⟨_, rfl⟩
  rw [← hy]
  have HY := Lib.hid hy
  clear hy
  go_wp2
  go_ret2
  refine ⟨by rw [HB.out, ← HY.out]; rfl, ?_, hkept.trans k2⟩
  rw [← HP.out]
  exact h2

theorem put_any (base b : Nat) (p : Value) (st : Option (List UInt8)) (t : Th) (ok : t.Ok) (w : World) (h : WrV w base b p st) (hb : b ≠ w.heap.size) (ht : Tab w) (hlen : Short st 700000000) :
    Calls Tryd.prog 14 #[p, .agg t.cells.toArray] w fun e w' => PutPost w base b p st t e w' := by
  rcases (show t.kind % 4 = 0 ∨ t.kind % 4 = 1 ∨ t.kind % 4 = 2 ∨ t.kind % 4 = 3 by omega) with hk | hk | hk | hk
  · exact put_num base b p st t ok w h hb ht hlen hk
  · exact put_text base b p st t ok w h hb ht hlen hk
  · exact put_hash base b p st t ok w h hb ht hlen hk
  · exact put_flag base b p st t ok w h hb ht hlen hk

end Go.Proofs.YtbpcmfnfjbnloaaDoor
