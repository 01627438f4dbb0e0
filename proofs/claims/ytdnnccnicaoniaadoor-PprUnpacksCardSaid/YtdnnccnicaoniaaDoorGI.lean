/-
  MacMath; MacFour; MacPad; MacUnder; MacCode; MacDerive: several texts in one.
-/
import Derived.Test.YtdnnccnicaoniaaDoorGC
import Derived.Laws.IdiomStrings
import Derived.Deep.MidRow
import Derived.Deep.Cut
import Derived.Deep.DeepCutAuto
import Derived.Laws.BitsAllLaws
import Derived.Test.YtdnnccnicaoniaaDoorGA
import Derived.Laws.MakeOwn
import Derived.Laws.OwnMore
import Derived.StillTailTactics

namespace Go.Proofs.YtdnnccnicaoniaaDoor
namespace Mc

/-- The key, or its digest, with noughts behind it: 64 bytes. -/
def short (key : List UInt8) : List UInt8 := if 64 < key.length then Sm.sum key else key
def filled (key : List UInt8) : List UInt8 := short key ++ List.replicate (64 - (short key).length) 0
/-- Each byte put exclusively with x. -/
def put (x : UInt8) (l : List UInt8) : List UInt8 := l.map fun b => b ^^^ x
def under (f text : List UInt8) : List UInt8 := Sm.sum (put 92 f ++ Sm.sum (put 54 f ++ text))
def code (key text : List UInt8) : List UInt8 := under (filled key) text
def four (n : Nat) : List UInt8 := [UInt8.ofNat (n / 16777216), UInt8.ofNat (n / 65536), UInt8.ofNat (n / 256), UInt8.ofNat n]
def derive (key label context : List UInt8) : List UInt8 := code key (four label.length ++ label ++ context)
/-- The codes of 0 to k - 1, one behind the other; the first n bytes of the row. -/
def row (key : List UInt8) : Nat → List UInt8
  | 0 => []
  | k + 1 => row key k ++ code key (four k)
def stream (key : List UInt8) (n : Nat) : List UInt8 := (row key ((n + 31) / 32)).take n

theorem short_length (key : List UInt8) : (short key).length ≤ 64 := by
  unfold short
  split
  · rw [sum_length]; decide
  · omega
theorem filled_length (key : List UInt8) : (filled key).length = 64 := by
  have := short_length key
  rw [filled, List.length_append, List.length_replicate]
  omega
theorem put_length (x : UInt8) (l : List UInt8) : (put x l).length = l.length := by simp [put]
theorem under_length (f t : List UInt8) : (under f t).length = 32 := sum_length _
theorem code_length (k t : List UInt8) : (code k t).length = 32 := sum_length _
theorem four_length (n : Nat) : (four n).length = 4 := rfl
theorem derive_length (k l c : List UInt8) : (derive k l c).length = 32 := sum_length _
theorem row_length (key : List UInt8) : ∀ k, (row key k).length = 32 * k
  | 0 => rfl
  | k + 1 => by rw [row, List.length_append, row_length key k, code_length]; omega
theorem row_append (key : List UInt8) (k : Nat) : ∀ d, ∃ r, row key (k + d) = row key k ++ r
  | 0 => ⟨[], by simp⟩
  | d + 1 => by
    obtain ⟨r, h⟩ := row_append key k d
    exact ⟨r ++ code key (four (k + d)), by rw [← Nat.add_assoc, row, h, List.append_assoc]⟩
/-- Whatever row is long enough begins so. -/
theorem row_take (key : List UInt8) (n k : Nat) (h : n ≤ 32 * k) : (row key k).take n = stream key n := by
  have hk : (n + 31) / 32 ≤ k := by omega
  obtain ⟨r, hr⟩ := row_append key ((n + 31) / 32) (k - (n + 31) / 32)
  rw [show (n + 31) / 32 + (k - (n + 31) / 32) = k by omega] at hr
  rw [hr, List.take_append_of_le_length (by rw [row_length]; omega), stream]
theorem stream_length (key : List UInt8) (n : Nat) : (stream key n).length = n := by
  rw [stream, List.length_take, row_length]
  omega
theorem stream_take (key : List UInt8) (n k : Nat) (h : k ≤ n) : (stream key n).take k = stream key k := by
  rw [stream, List.take_take, Nat.min_eq_left h, row_take key k _ (by omega)]
theorem stream_zero (key : List UInt8) : stream key 0 = [] := by simp [stream]

/-- The document's example. -/
def jefe : List UInt8 := [74, 101, 102, 101]
def nothing : List UInt8 := [119, 104, 97, 116, 32, 100, 111, 32, 121, 97, 32, 119, 97, 110, 116, 32] ++ [102, 111, 114, 32, 110, 111, 116, 104, 105, 110, 103, 63]
def said : List UInt8 := [53, 98, 100, 99, 99, 49, 52, 54, 98, 102, 54, 48, 55, 53, 52, 101, 54, 97, 48, 52, 50, 52, 50, 54, 48, 56, 57, 53, 55, 53, 99, 55, 53, 97, 48, 48, 51, 102, 48, 56, 57, 100, 50, 55, 51, 57, 56, 51, 57, 100, 101, 99, 53, 56, 98, 57, 54, 52, 101, 99, 51, 56, 52, 51]
set_option maxRecDepth 100000 in
theorem awake : Sm.hex (code jefe nothing) = said := by decide +kernel

end Mc
end Go.Proofs.YtdnnccnicaoniaaDoor

namespace Go.Proofs.YtdnnccnicaoniaaDoor
open Go.RowKit

/-- The string of the bytes that lie in a block. -/
theorem conv_at (w : World) (b o cap : Nat) (l : List UInt8) (h : ∀ j (hj : j < l.length), w.cell? ⟨b, o + j, none⟩ = some (.int .u8 ((l[j]).toNat : Int))) :
    (convert 61 9 (.slice (some ⟨b, o, none⟩) l.length cap)).run Tryd.prog w = .ok (.string (str l)) w :=
  run_convert_bytes_back (P := Tryd.prog) w 61 9 5 ⟨b, o, none⟩ cap l Tryd.underlying61 Tryd.underlying5 Tryd.underlying9 (fun j hj => by rw [Addr.add_lit]; exact h j hj)
/-- .. of a part of a row of bytes. -/
theorem conv_row (w : World) (b : Nat) (m : List UInt8) (t : TypeId) (fr : Nat × Nat) (hb : w.heap[b]? = some (.cells (bcells m).toArray t fr)) (o cap : Nat) (l : List UInt8) (h : l = (m.drop o).take l.length) :
    (convert 61 9 (.slice (some ⟨b, o, none⟩) l.length cap)).run Tryd.prog w = .ok (.string (str l)) w := by
  refine conv_at w b o cap l fun j hj => ?_
  have hm : m[o + j]? = some l[j] := by
    have h1 : l[j]? = some l[j] := List.getElem?_eq_getElem hj
    have h2 : l[j]? = ((m.drop o).take l.length)[j]? := congrArg (fun x : List UInt8 => x[j]?) h
    rw [List.getElem?_take, if_pos hj, List.getElem?_drop] at h2
    rw [← h2, h1]
  have hlt : o + j < m.length := by
    rcases Nat.lt_or_ge (o + j) m.length with h1 | h1
    · exact h1
    · rw [List.getElem?_eq_none h1] at hm; cases hm
  have hv : m[o + j] = l[j] := by
    rw [List.getElem?_eq_getElem hlt] at hm
    exact Option.some.inj hm
  simp [World.cell?, hb, bcells, hlt, hv]
theorem conv_four (w : World) (a b c d : UInt8) : (convert 61 9 (.slice (some ⟨w.heap.size, 0, none⟩) 4 4)).run Tryd.prog (w.alloc (.cells #[.int .u8 (a.toNat : Int), .int .u8 (b.toNat : Int), .int .u8 (c.toNat : Int), .int .u8 (d.toNat : Int)] 5)) = .ok (.string (str [a, b, c, d])) (w.alloc (.cells #[.int .u8 (a.toNat : Int), .int .u8 (b.toNat : Int), .int .u8 (c.toNat : Int), .int .u8 (d.toNat : Int)] 5)) :=
  conv_row _ w.heap.size [a, b, c, d] _ (0, 0) (heap_new _ _) 0 4 [a, b, c, d] rfl

theorem byte_of (x : Nat) : ((x : Int) % 256) = (((UInt8.ofNat x).toNat : Nat) : Int) := by rw [UInt8.toNat_ofNat']; rfl

end Go.Proofs.YtdnnccnicaoniaaDoor

namespace Go.Proofs.YtdnnccnicaoniaaDoor
open Go.RowKit

/-- Behind the first i rounds. -/
def padRow (f : List UInt8) (i : Nat) : List UInt8 := Mc.put 54 (f.take i) ++ f.drop i ++ (Mc.put 92 (f.take i) ++ f.drop i)
/-- What a padded key is laid as. -/
def padOf (f : List UInt8) : List UInt8 := Mc.put 54 f ++ Mc.put 92 f
theorem padRow_all (f : List UInt8) (h : f.length = 64) : padRow f 64 = padOf f := by
  rw [padRow, padOf, List.take_of_length_le (by omega), List.drop_of_length_le (by omega), List.append_nil, List.append_nil]
theorem padRow_zero (f : List UInt8) : padRow f 0 = f ++ f := by simp [padRow, Mc.put]
theorem padRow_length (f : List UInt8) (h : f.length = 64) (i : Nat) (hi : i ≤ 64) : (padRow f i).length = 128 := by
  simp only [padRow, List.length_append, Mc.put_length, List.length_take, List.length_drop, h]
  omega
theorem padOf_length (f : List UInt8) (h : f.length = 64) : (padOf f).length = 128 := by rw [padOf, List.length_append, Mc.put_length, Mc.put_length, h]
theorem half_length (x : UInt8) (f : List UInt8) (h : f.length = 64) (i : Nat) (hi : i ≤ 64) : (Mc.put x (f.take i) ++ f.drop i).length = 64 := by
  simp only [List.length_append, Mc.put_length, List.length_take, List.length_drop, h]
  omega
theorem half_at (x : UInt8) (f : List UInt8) (i : Nat) (hi : i < f.length) : (Mc.put x (f.take i) ++ f.drop i)[i]? = some f[i] := by
  have hl : (Mc.put x (f.take i)).length = i := by rw [Mc.put_length, List.length_take]; omega
  rw [List.getElem?_append_right (by omega), hl, Nat.sub_self, List.getElem?_drop]
  simp [hi]
theorem half_set (x : UInt8) (f : List UInt8) (i : Nat) (hi : i < f.length) : (Mc.put x (f.take i) ++ f.drop i).set i (f[i] ^^^ x) = Mc.put x (f.take (i + 1)) ++ f.drop (i + 1) := by
  have hl : (Mc.put x (f.take i)).length = i := by rw [Mc.put_length, List.length_take]; omega
  rw [List.set_append_right _ _ (by omega), hl, Nat.sub_self, List.drop_eq_getElem_cons hi, List.set_cons_zero, List.take_succ_eq_append_getElem hi, Mc.put, Mc.put, List.map_append, List.append_assoc]
  rfl
theorem padRow_in (f : List UInt8) (h : f.length = 64) (i : Nat) (hi : i < f.length) : (padRow f i)[i]? = some f[i] := by
  rw [padRow, List.getElem?_append_left (by rw [half_length 54 f h i (by omega)]; omega), half_at 54 f i hi]
theorem padRow_out (f : List UInt8) (h : f.length = 64) (i : Nat) (hi : i < f.length) : ((padRow f i).set i (f[i] ^^^ 54))[64 + i]? = some f[i] := by
  have hl := half_length 54 f h i (by omega)
  rw [padRow, List.getElem?_set_ne (by omega), List.getElem?_append_right (by omega), hl, Nat.add_sub_cancel_left, half_at 92 f i hi]
theorem padRow_more (f : List UInt8) (h : f.length = 64) (i : Nat) (hi : i < f.length) : ((padRow f i).set i (f[i] ^^^ 54)).set (64 + i) (f[i] ^^^ 92) = padRow f (i + 1) := by
  have hl := half_length 54 f h i (by omega)
  have hl2 := half_length 54 f h (i + 1) (by omega)
  rw [padRow, List.set_append_left _ _ (by omega), half_set 54 f i hi, List.set_append_right _ _ (by omega), hl2, Nat.add_sub_cancel_left, half_set 92 f i hi, padRow]

theorem halfInfo : (Tryd.prog.info? 118).map (·.size) = some 64 := by kernel_rfl

/-! ## Bytes laid over others. -/
def over (m : List UInt8) (o : Nat) : List UInt8 → List UInt8
  | [] => m
  | c :: y => over (m.set o c) (o + 1) y
theorem over_behind : ∀ (y a b : List UInt8), b.length = y.length → over (a ++ b) a.length y = a ++ y
  | [], a, b, h => by
    obtain rfl : b = [] := List.length_eq_zero_iff.1 h
    rfl
  | c :: y, a, b, h => by
    match b, h with
    | d :: b, h =>
      have e : (a ++ d :: b).set a.length c = (a ++ [c]) ++ b := by
        rw [List.set_append_right _ _ (Nat.le_refl _), Nat.sub_self, List.set_cons_zero, List.append_assoc]
        rfl
      have := over_behind y (a ++ [c]) b (by simpa using h)
      rw [List.length_append, List.length_singleton] at this
      rw [over, e, this, List.append_assoc]
      rfl
theorem setCells_bytes (b : Nat) (t : TypeId) : ∀ (y : List UInt8) (o : Nat) (m : List UInt8) (w : World), w.heap[b]? = some (.cells (bcells m).toArray t (0, 0)) → (w.setCells b o (bcells y)).heap[b]? = some (.cells (bcells (over m o y)).toArray t (0, 0))
  | [], _, _, _, h => h
  | c :: y, o, m, w, h => by
    have h1 := cells_set h o (.int .u8 (c.toNat : Int))
    rw [show (bcells m).set o (.int .u8 (c.toNat : Int)) = bcells (m.set o c) by simp [bcells, List.map_set]] at h1
    exact setCells_bytes b t y (o + 1) (m.set o c) _ h1
theorem Kept.setCells {base b : Nat} {w1 : World} {b' : Nat} (hp : b' = b ∨ base ≤ b') : ∀ (vs : List Value) (o : Nat) (w : World), Kept base b w1 w → Kept base b w1 (w.setCells b' o vs)
  | [], _, _, h => h
  | v :: vs, o, _, h => Kept.setCells hp vs (o + 1) _ (h.set hp o v)
theorem setCells_size (b : Nat) : ∀ (vs : List Value) (o : Nat) (w : World), (w.setCells b o vs).heap.size = w.heap.size
  | [], _, _ => rfl
  | v :: vs, o, w => by
    rw [World.setCells, setCells_size b vs (o + 1) _]
    simp [World.setCell]

theorem store_over {P : Program} (w : World) (g : Nat) (t : TypeId) (old cs : Array Value) (hg : w.heap[g]? = some (.cells old t (0, 0))) (ho : old.size = cs.size) (h1 : cs.all (·.oneCell') = true) : (storeCells ⟨g, 0, none⟩ cs.toList).run P w = .ok () (w.setRow g cs) := by
  have := run_storeCells_from (P := P) g t cs.toList 0 old w hg (by simp; omega) (fun v hv => (Array.all_eq_true_iff_forall_mem.1 h1) v (by simpa using hv))
  rw [this]
  simp
theorem bcell_at {w : World} {b : Nat} {m : List UInt8} {t : TypeId} (h : w.heap[b]? = some (.cells (bcells m).toArray t (0, 0))) {j : Nat} {x : UInt8} (hj : m[j]? = some x) : w.cell? ⟨b, j, none⟩ = some (.int .u8 (x.toNat : Int)) := by
  simp [World.cell?, h, bcells, hj]
theorem bcell_set {w : World} {b : Nat} {m : List UInt8} {t : TypeId} (h : w.heap[b]? = some (.cells (bcells m).toArray t (0, 0))) (j : Nat) (x : UInt8) : (w.setCell ⟨b, j, none⟩ (.int .u8 (x.toNat : Int))).heap[b]? = some (.cells (bcells (m.set j x)).toArray t (0, 0)) := by
  have h1 := cells_set h j (.int .u8 (x.toNat : Int))
  rwa [show (bcells m).set j (.int .u8 (x.toNat : Int)) = bcells (m.set j x) by simp [bcells, List.map_set]] at h1
theorem xor8 (x y : UInt8) : bits .xor .u8 (x.toNat : Int) (y.toNat : Int) = ((x ^^^ y).toNat : Int) := by
  rw [u8_xor_nat _ _ x.toNat_lt y.toNat_lt, UInt8.toNat_xor]

/-- A padded key's zero. -/
def padNil : Array Value := (bcells (List.replicate 128 0)).toArray
theorem short_le (k : List UInt8) (s : ByteArray) (h : s.data.toList = Mc.short k) : s.size ≤ 64 := by
  have h1 := Mc.short_length k
  have h2 : s.data.toList.length = s.size := by simp
  rw [h] at h2
  omega

end Go.Proofs.YtdnnccnicaoniaaDoor

namespace Go.Proofs.YtdnnccnicaoniaaDoor
open Go.RowKit

theorem joined_cons (s : ByteArray) (parts : List ByteArray) : joined (s :: parts) (s :: parts).length = s.data.toList ++ joined parts parts.length := by simp [joined]
theorem macInfo9 : (Tryd.prog.info? 9).map (fun i => (i.zero, i.size, i.bytes)) = some (some (.string ⟨#[]⟩), 1, 16) := by kernel_rfl
theorem mac_str : ∃ i, Tryd.prog.info? 9 = some i ∧ i.zero = some (.string ⟨#[]⟩) ∧ i.size = 1 ∧ i.bytes = 16 := by
  have h := macInfo9
  cases hq : Tryd.prog.info? 9 with
  | none => rw [hq] at h; cases h
  | some i =>
    rw [hq] at h
    simp only [Option.map_some, Option.some.injEq, Prod.mk.injEq] at h
    exact ⟨i, rfl, h.1, h.2.1, h.2.2⟩
/-- An empty row of texts with room. -/
theorem make_texts (w : World) (c : Nat) (hc : c < 2147483648) : ∃ w', (Instr.makeSlice 115 (.int .i64 0) (.int .i64 (c : Int))).run Tryd.prog w = .ok (.slice (some ⟨w.heap.size, 0, none⟩) 0 c) w' ∧
    w'.ownsRow w.heap.size 9 1 (.slice (some ⟨w.heap.size, 0, none⟩) 0 c) 0 [] ∧ w.grownBy w' none := by
  obtain ⟨i, hi, hz, hs, hb⟩ := mac_str
  exact run_make_own (P := Tryd.prog) w w.heap.size 115 9 i (.string ⟨#[]⟩) 1 Tryd.underlying115 hi hz hs .i64 .i64 c (by rw [hb]; omega) (by unfold maxLen; omega) (Nat.le_refl _)
/-- Texts put behind those of a row of one's own. -/
theorem append_texts (w : World) (base : Nat) (v : Value) (n : Nat) (xs : List Value) (hown : w.ownsRow base 9 1 v n xs) (hbase : base ≤ w.heap.size) (ad : Option Addr) (m c g o : Nat) (news : List ByteArray) (hm : news.length = m) (hnil : ad = none → m = 0 ∧ c = 0)
    (hcell : ∀ j (hj : j < news.length), ad = some ⟨g, o, none⟩ ∧ w.cell? ⟨g, o + j, none⟩ = some (.string news[j])) (hb : n + m < 2147483648) :
    ∃ v' w', (Builtin.append_ #[115, 115] 115 #[v, .slice ad m c]).run Tryd.prog w = .ok v' w' ∧ w'.ownsRow base 9 1 v' (n + m) (xs ++ news.map .string) ∧ w.grownBy w' v.ownBlock := by
  obtain ⟨i, hi, hz, hs, hby⟩ := mac_str
  match ad, hnil, hcell with
  | none, hnil, _ =>
    obtain ⟨rfl, rfl⟩ := hnil rfl
    obtain rfl : news = [] := List.length_eq_zero_iff.1 hm
    have := run_append_owned_none (P := Tryd.prog) (w := w) base 115 115 9 i 1 Tryd.underlying115 hi v n xs hown
    exact ⟨v, w, this, by simpa using hown, ⟨rfl, rfl, rfl, Nat.le_refl _, fun _ _ _ => rfl⟩⟩
  | some a, _, hcell =>
    obtain ⟨v', w', h1, h2, h3, _⟩ := run_append_own (P := Tryd.prog) w base 115 115 9 i (.string ⟨#[]⟩) 1 16 Tryd.underlying115 hi hz hs hby rfl (by decide) v n xs hown a m c (news.map .string)
      (by rw [List.length_map]; omega) (fun j u hu => by
        rw [List.getElem?_map] at hu
        have hj : j < news.length := by
          rcases Nat.lt_or_ge j news.length with h | h
          · exact h
          · rw [List.getElem?_eq_none h] at hu; cases hu
        obtain ⟨h1, h2⟩ := hcell j hj
        cases h1
        rw [List.getElem?_eq_getElem hj] at hu
        simp only [Option.map_some, Option.some.injEq] at hu
        rw [Addr.add_lit, h2, hu])
      (fun u hu => by
        obtain ⟨x, _, rfl⟩ := List.mem_map.1 hu
        rfl) (by unfold maxLen; omega) (by omega) hbase
    exact ⟨v', w', h1, h2, h3⟩
/-- What a row of texts of one's own is. -/
theorem owns_texts {w : World} {base : Nat} {v : Value} {n : Nat} {xs : List ByteArray} (h : w.ownsRow base 9 1 v n (xs.map .string)) (hn : 0 < n) :
    ∃ g cap, v = .slice (some ⟨g, 0, none⟩) xs.length cap ∧ base ≤ g ∧ g < w.heap.size ∧ ∀ j (hj : j < xs.length), w.cell? ⟨g, 0 + j, none⟩ = some (.string xs[j]) := by
  have hl := h.1
  rw [List.length_map, Nat.mul_one] at hl
  have hlt := h.lt
  have h0 := h
  rcases h.2 with ⟨_, rfl⟩ | ⟨g, cap, cur, rfl, hb, _⟩
  · exact absurd hn (Nat.lt_irrefl _)
  · refine ⟨g, cap, by rw [hl], hb, (hlt g rfl).2, fun j hj => ?_⟩
    have := h0.cells (g := g) rfl j (.string xs[j]) (by rw [List.getElem?_map, List.getElem?_eq_getElem hj]; rfl)
    rwa [Addr.add_lit] at this

end Go.Proofs.YtdnnccnicaoniaaDoor

namespace Go.Proofs.YtdnnccnicaoniaaDoor
open Go.RowKit

end Go.Proofs.YtdnnccnicaoniaaDoor

namespace Go.Proofs.YtdnnccnicaoniaaDoor
open Go.RowKit

/-- The digest in a block as a text. -/
theorem conv_hash {w : World} {b : Nat} {l : List UInt8} (hl : l.length = 32) {t : TypeId} {fr : Nat × Nat} (h : w.heap[b]? = some (.cells (bcells l).toArray t fr)) : (convert 61 9 (.slice (some ⟨b, 0, none⟩) 32 32)).run Tryd.prog w = .ok (.string (str l)) w := by
  have := conv_row w b l t fr h 0 32 l (by rw [List.drop_zero, List.take_length])
  rwa [hl] at this
theorem str_data (l : List UInt8) : (str l).data.toList = l := rfl

end Go.Proofs.YtdnnccnicaoniaaDoor
