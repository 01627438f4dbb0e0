/-
  PprUn; PprRead; PprUnp: several texts in one.
-/
import Derived.Test.YtdnnccnicaoniaaDoorPprRefPack
import Derived.Test.YtdnnccnicaoniaaDoorWireAll
import Derived.Test.YtdnnccnicaoniaaDoorGS
import Derived.Test.YtdnnccnicaoniaaDoorHeldEx
import Derived.Test.YtdnnccnicaoniaaDoorGD
import Derived.Test.YtdnnccnicaoniaaDoorGA
import Derived.Test.YtdnnccnicaoniaaDoorGQ
import Derived.Test.YtdnnccnicaoniaaDoorPprStaysLaw

namespace Go.Proofs.YtdnnccnicaoniaaDoor
open Go.RowKit Go.Lib
namespace Pp

def z32u : List UInt8 := List.replicate 32 0
/-- What reading one seed answers: the error, the seed, what is left. -/
structure R1 where
  e : Int
  s : Sd
  l : List UInt8
def MX : Int := 4611686018427387903
def lev (l : List UInt8) : Nat := (gNum l 0 MX).val.toNat
def r2 (l : List UInt8) : Wm.Got Int := gNum (gNum l 0 MX).left (gNum l 0 MX).err MX
def rd (bits : Nat) (l : List UInt8) (free : Nat) : R1 :=
  if bits < lev l then ⟨if (gNum l 0 MX).err = 0 then 3 else (gNum l 0 MX).err, ⟨0, 0, z32u⟩, []⟩
  else if 2 ^ lev l ≤ (r2 l).val.toNat ∨ (r2 l).val.toNat * 2 ^ (bits - lev l) < free then ⟨if (r2 l).err = 0 then 3 else (r2 l).err, ⟨0, 0, z32u⟩, []⟩
  else ⟨(gHash (r2 l).left (r2 l).err).err, ⟨lev l, (r2 l).val.toNat, (gHash (r2 l).left (r2 l).err).val⟩, (gHash (r2 l).left (r2 l).err).left⟩
theorem gNum_val (l : List UInt8) (e most : Int) : 0 ≤ (gNum l e most).val ∧ (gNum l e most).val ≤ 4611686018427387903 := by
  unfold gNum
  split
  · exact Wm.rNum_val l most
  · exact ⟨Int.le_refl _, by show (0 : Int) ≤ 4611686018427387903; decide⟩
theorem gNum_fail (l : List UInt8) (e most : Int) (h : (gNum l e most).err ≠ 0) : (gNum l e most).val = 0 ∧ (gNum l e most).left = [] := by
  unfold gNum at h ⊢
  split at h
  · rename_i he
    rw [if_pos he]
    exact Wm.rNum_fail l most h
  · rename_i he
    rw [if_neg he]
    exact ⟨rfl, rfl⟩
theorem gNum_err (l : List UInt8) (e most : Int) (h : e ≠ 0) : gNum l e most = ⟨0, [], e⟩ := by rw [gNum, if_neg h]
theorem gHash_err (l : List UInt8) (e : Int) (h : e ≠ 0) : gHash l e = ⟨List.replicate 32 0, [], e⟩ := by rw [gHash, if_neg h]
theorem gHash_fail (l : List UInt8) (e : Int) (h : (gHash l e).err ≠ 0) : (gHash l e).left = [] := by
  unfold gHash at h ⊢
  split at h
  · rename_i he
    rw [if_pos he]
    split at h
    · rename_i h2
      rw [if_pos h2]
    · exact absurd rfl h
  · rename_i he
    rw [if_neg he]
theorem lev_cast (l : List UInt8) : ((lev l : Nat) : Int) = (gNum l 0 MX).val := Int.toNat_of_nonneg (gNum_val l 0 MX).1
theorem r2_cast (l : List UInt8) : (((r2 l).val.toNat : Nat) : Int) = (r2 l).val := Int.toNat_of_nonneg (gNum_val _ _ MX).1
theorem rd_in (bits : Nat) (l : List UInt8) (free : Nat) : In bits (rd bits l free).s := by
  unfold rd
  split
  · exact ⟨Nat.zero_le _, Nat.one_pos, rfl⟩
  · split
    · exact ⟨Nat.zero_le _, Nat.one_pos, rfl⟩
    · rename_i h1 h2
      exact ⟨by show lev l ≤ bits; omega, by show (r2 l).val.toNat < 2 ^ lev l; omega, gHash_length _ _⟩
theorem rd_fail (bits : Nat) (l : List UInt8) (free : Nat) (h : (rd bits l free).e ≠ 0) : (rd bits l free).l = [] := by
  unfold rd at h ⊢
  split at h
  · rename_i h1
    rw [if_pos h1]
  · rename_i h1
    rw [if_neg h1]
    split at h
    · rename_i h2
      rw [if_pos h2]
    · rename_i h2
      rw [if_neg h2]
      exact gHash_fail _ _ h
/-- One form for each seed. -/
theorem rd_ok (bits : Nat) (l : List UInt8) (free : Nat) (h : (rd bits l free).e = 0) : l = pack1 (rd bits l free).s ++ (rd bits l free).l ∧ free ≤ start bits (rd bits l free).s := by
  unfold rd at h ⊢
  split at h
  · rename_i h1
    have : (if (gNum l 0 MX).err = 0 then (3 : Int) else (gNum l 0 MX).err) = 0 := h
    split at this
    · cases this
    · contradiction
  · rename_i h1
    rw [if_neg h1]
    split at h
    · have : (if (r2 l).err = 0 then (3 : Int) else (r2 l).err) = 0 := h
      split at this
      · cases this
      · contradiction
    · rename_i h2
      rw [if_neg h2]
      have hh : (gHash (r2 l).left (r2 l).err).err = 0 := h
      have h3 : (r2 l).err = 0 := by
        by_cases h3 : (r2 l).err = 0
        · exact h3
        · rw [gHash_err _ _ h3] at hh
          exact absurd hh h3
      have h4 : (gNum l 0 MX).err = 0 := by
        by_cases h4 : (gNum l 0 MX).err = 0
        · exact h4
        · rw [r2, gNum_err _ _ _ h4] at h3
          exact absurd h3 h4
      have e1 : gNum l 0 MX = Wm.rNum l MX := by rw [gNum, if_pos rfl]
      have e2 : r2 l = Wm.rNum (gNum l 0 MX).left MX := by rw [r2, h4, gNum, if_pos rfl]
      have p1 := Wm.enc_rNum l MX (by rw [← e1]; exact h4)
      have p2 := Wm.enc_rNum (gNum l 0 MX).left MX (by rw [← e2]; exact h3)
      rw [← e1] at p1
      rw [← e2] at p2
      have p3 : (r2 l).left = (gHash (r2 l).left (r2 l).err).val ++ (gHash (r2 l).left (r2 l).err).left := by
        rw [h3, gHash, if_pos rfl] at hh ⊢
        split at hh
        · cases hh
        · rename_i h5
          rw [if_neg h5]
          exact (List.take_append_drop 32 _).symm
      refine ⟨?_, by show free ≤ (r2 l).val.toNat * 2 ^ (bits - lev l); omega⟩
      show l = Wm.enc (gNum l 0 MX).val.toNat ++ Wm.enc (r2 l).val.toNat ++ _ ++ _
      rw [List.append_assoc, List.append_assoc, ← p3, ← p2, ← p1]
/-- Reading so many seeds. -/
def many (bits : Nat) : Nat → List UInt8 → Nat → List Sd × Int × List UInt8
  | 0, l, _ => ([], 0, l)
  | k + 1, l, free =>
    if (rd bits l free).e = 0 then ((rd bits l free).s :: (many bits k (rd bits l free).l (stop bits (rd bits l free).s)).1, (many bits k (rd bits l free).l (stop bits (rd bits l free).s)).2)
    else ([], (rd bits l free).e, [])
theorem many_ok (bits : Nat) : ∀ (k : Nat) (l : List UInt8) (free : Nat), (many bits k l free).2.1 = 0 → l = packs (many bits k l free).1 ++ (many bits k l free).2.2 ∧ (many bits k l free).1.length = k ∧ Good bits (many bits k l free).1 ∧ ∀ s ∈ (many bits k l free).1, free ≤ start bits s
  | 0, l, free, _ => ⟨rfl, rfl, ⟨(fun _ h => nomatch h), List.Pairwise.nil⟩, (fun _ h => nomatch h)⟩
  | k + 1, l, free, h => by
    unfold many at h ⊢
    by_cases h1 : (rd bits l free).e = 0
    · rw [if_pos h1] at h ⊢
      obtain ⟨a1, a2⟩ := rd_ok bits l free h1
      obtain ⟨b1, b2, b3, b4⟩ := many_ok bits k _ _ h
      have hlt := start_lt bits (rd bits l free).s
      refine ⟨?_, by rw [List.length_cons, b2], ⟨fun s hs => ?_, List.pairwise_cons.2 ⟨fun s hs => b4 s hs, b3.2⟩⟩, fun s hs => ?_⟩
      · show l = pack1 _ ++ packs _ ++ _
        rw [List.append_assoc, ← b1]
        exact a1
      · rcases List.mem_cons.1 hs with h2 | h2
        · rw [h2]; exact rd_in bits l free
        · exact b3.1 s h2
      · rcases List.mem_cons.1 hs with h2 | h2
        · rw [h2]; exact a2
        · have := b4 s h2
          omega
    · rw [if_neg h1] at h
      exact absurd h h1
theorem many_fail (bits : Nat) : ∀ (k : Nat) (l : List UInt8) (free : Nat), (many bits k l free).2.1 ≠ 0 → (many bits k l free).2.2 = []
  | 0, _, _, h => absurd rfl h
  | k + 1, l, free, h => by
    unfold many at h ⊢
    by_cases h1 : (rd bits l free).e = 0
    · rw [if_pos h1] at h ⊢
      exact many_fail bits k _ _ h
    · rw [if_neg h1]
/-- How many seeds the bytes tell of, and all that is read. -/
def cntOf (l : List UInt8) : Nat := (gNum l 0 65536).val.toNat
def all (bits : Nat) (l : List UInt8) : List Sd × Int × List UInt8 :=
  if (gNum l 0 65536).err = 0 then many bits (cntOf l) (gNum l 0 65536).left 0 else ([], (gNum l 0 65536).err, [])
def allErr (bits : Nat) (l : List UInt8) : Int := gEnd (all bits l).2.2 (all bits l).2.1
theorem all_ok (bits : Nat) (l : List UInt8) (h : allErr bits l = 0) : l = pack (all bits l).1 ∧ Good bits (all bits l).1 ∧ (all bits l).1.length ≤ 65536 := by
  have h0 : (all bits l).2.1 = 0 ∧ (all bits l).2.2 = [] := by
    unfold allErr gEnd at h
    split at h
    · rename_i h1
      refine ⟨h1, ?_⟩
      split at h
      · assumption
      · cases h
    · rename_i h1
      exact absurd h h1
  unfold all at h0 ⊢
  by_cases h1 : (gNum l 0 65536).err = 0
  · rw [if_pos h1] at h0 ⊢
    obtain ⟨a1, a2, a3, _⟩ := many_ok bits (cntOf l) _ 0 h0.1
    have e1 : gNum l 0 65536 = Wm.rNum l 65536 := by rw [gNum, if_pos rfl]
    have p1 := Wm.enc_rNum l 65536 (by rw [← e1]; exact h1)
    have p2 := Wm.rNum_le l 65536 (by rw [← e1]; exact h1)
    rw [← e1] at p1 p2
    refine ⟨?_, a3, ?_⟩
    · rw [h0.2, List.append_nil] at a1
      rw [pack, a2]
      show l = Wm.enc (gNum l 0 65536).val.toNat ++ _
      rw [← a1]
      exact p1
    · rw [a2]
      show (gNum l 0 65536).val.toNat ≤ 65536
      omega
  · rw [if_neg h1] at h0
    exact absurd h0.1 h1
end Pp

end Go.Proofs.YtdnnccnicaoniaaDoor

namespace Go.Proofs.YtdnnccnicaoniaaDoor
open Go.RowKit Go.Lib

theorem zeros34_cells : zeros34 = (Pp.cells ⟨0, 0, Pp.z32u⟩).toArray := rfl
theorem Pp.cells_lev (s : Sd) (n : Nat) : (Pp.cells s).set 0 (.int .i64 (n : Int)) = Pp.cells ⟨n, s.place, s.self⟩ := rfl
theorem Pp.cells_place (s : Sd) (n : Nat) : (Pp.cells s).set 1 (.int .i64 (n : Int)) = Pp.cells ⟨s.level, n, s.self⟩ := rfl
theorem cells_there {w : World} {b : Nat} {cs : List Value} {t : TypeId} (h : w.heap[b]? = some (.cells cs.toArray t (0, 0))) (o n : Nat) (hn : o + n ≤ cs.length) : w.there b o n := fun j hj => by
  refine ⟨?_, cells_free h _⟩
  rw [cells_at h (o + j) (by omega)]
  rfl
theorem Pp.cells_all (s : Sd) : (Pp.cells s).toArray.all (·.oneCell') = true := by
  refine all_oneCell_toArray fun v hv => ?_
  rcases List.mem_cons.1 hv with rfl | hv
  · rfl
  · rcases List.mem_cons.1 hv with rfl | hv
    · rfl
    · exact bcells_one _ v hv
set_option maxRecDepth 100000 in
theorem build_seed0 (w : World) : (Instr.build 54 #[]).run Tryd.prog w = .ok (.agg zeros34) w := by kernel_rfl
theorem seedInfoA {cs : Array Value} (h : cs.size = 34) : (Tryd.prog.info? 54).map (·.size) = some cs.size := by rw [h, seedInfo]

theorem setCells_other (w : World) (b k : Nat) (hk : k ≠ b) : ∀ (vs : List Value) (o : Nat), (w.setCells b o vs).heap[k]? = w.heap[k]?
  | [], _ => rfl
  | v :: vs, o => by
    show ((w.setCell ⟨b, o, none⟩ v).setCells b (o + 1) vs).heap[k]? = _
    rw [setCells_other _ b k hk vs (o + 1), setCell_other w b o v k hk]
theorem keptSetCells {base c : Nat} (b : Nat) (hb : base ≤ b) : ∀ (vs : List Value) (o : Nat) (w : World), Kept base c w (w.setCells b o vs)
  | [], _, w => Kept.refl _ _ w
  | v :: vs, o, w => ((Kept.refl base c w).set (b' := b) (.inr hb) o v).trans (keptSetCells b hb vs (o + 1) _)

set_option maxRecDepth 100000 in
set_option maxHeartbeats 6400000 in
theorem read_calls (bits : Nat) (hb : bits ≤ 32) (l : List UInt8) (free : Nat) (rb top b : Nat) (sl : Value) (w : World) (hR : Rd w top b l 0) (hr : w.heap[rb]? = some (.cells #[.int .i64 (bits : Int), sl] 57 (0, 0))) (hne : rb ≠ b) (hb0 : 0 < b) (ht : Tab w) :
    Calls Tryd.prog 32 #[.pointer (some ⟨rb, 0, none⟩), .pointer (some ⟨b, 0, none⟩), .int .i64 (free : Int)] w fun e w' => e = .returned (.agg (Pp.cells (Pp.rd bits l free).s).toArray) ∧ Rd w' top b (Pp.rd bits l free).l (Pp.rd bits l free).e ∧ Kept w.heap.size b w w' := by
  have hbl : b < w.heap.size := Nat.lt_of_lt_of_le hR.lt hR.le
  have HBL := Lib.hid hbl
  have HB0 := Lib.hid hb0
  have HNE := Lib.hid hne
  have HT := Lib.hid ht
  have HB := Lib.hid hb
  have hrl := lt_of_block hr
  have k2 : Kept w.heap.size b w ((w.alloc (.cells zeros34 54)).alloc (.cells zeros34 54)) := ((Kept.refl _ _ _).alloc (Nat.le_refl _) _).alloc (by simp) _
  have hA : ((w.alloc (.cells zeros34 54)).alloc (.cells zeros34 54)).heap[w.heap.size]? = some (.cells zeros34 54 (0, 0)) := by
    rw [Below.heap_alloc _ _ _ (by simp)]
    exact heap_new _ _
  have hS : ((w.alloc (.cells zeros34 54)).alloc (.cells zeros34 54)).heap[w.heap.size + 1]? = some (.cells (Pp.cells ⟨0, 0, Pp.z32u⟩).toArray 54 (0, 0)) := heap_alloc2_last _ _ _
  have K2 := Lib.hid k2
  have A2 := Lib.hid hA
  have S2 := Lib.hid hS
  have RD2 := Lib.hid ((hR.alloc (.cells zeros34 54)).alloc (.cells zeros34 54))
  have RR2 := Lib.hid ((k2.block rb hrl hne).trans hr)
  have T2 := Lib.hid (ht.kept k2 ht.lt hb0)
  have HRL := Lib.hid hrl
  have HTOP := Lib.hid hR.le
  have hsp : ∃ r, r = Pp.rd bits l free := ⟨_, rfl⟩
  obtain ⟨r, hrd⟩ := hsp
  obtain ⟨L, hL⟩ : ∃ L, L = Pp.lev l := ⟨_, rfl⟩
  obtain ⟨PL, hPL⟩ : ∃ PL, PL = (Pp.r2 l).val.toNat := ⟨_, rfl⟩
  obtain ⟨l1, hl1⟩ : ∃ l1, l1 = (gNum l 0 Pp.MX).left := ⟨_, rfl⟩
  obtain ⟨e1, he1⟩ : ∃ e1, e1 = (gNum l 0 Pp.MX).err := ⟨_, rfl⟩
  obtain ⟨l2, hl2⟩ : ∃ l2, l2 = (Pp.r2 l).left := ⟨_, rfl⟩
  obtain ⟨e2, he2⟩ : ∃ e2, e2 = (Pp.r2 l).err := ⟨_, rfl⟩
  obtain ⟨hh, hhh⟩ : ∃ hh, hh = (gHash l2 e2).val := ⟨_, rfl⟩
  obtain ⟨l3, hl3⟩ : ∃ l3, l3 = (gHash l2 e2).left := ⟨_, rfl⟩
  obtain ⟨e3, he3⟩ : ∃ e3, e3 = (gHash l2 e2).err := ⟨_, rfl⟩
  obtain ⟨x1, hx1⟩ : ∃ x1 : Int, x1 = if e1 = 0 then 3 else e1 := ⟨_, rfl⟩
  obtain ⟨x2, hx2⟩ : ∃ x2 : Int, x2 = if e2 = 0 then 3 else e2 := ⟨_, rfl⟩
  have rA : bits < L → r = ⟨x1, ⟨0, 0, Pp.z32u⟩, []⟩ := fun h => by rw [hrd, Pp.rd, if_pos (by rw [← hL]; exact h), hx1, he1]
  have rB : ¬ bits < L → (2 ^ L ≤ PL ∨ PL * 2 ^ (bits - L) < free) → r = ⟨x2, ⟨0, 0, Pp.z32u⟩, []⟩ := fun h h2 => by rw [hrd, Pp.rd, if_neg (by rw [← hL]; exact h), if_pos (by rw [← hL, ← hPL]; exact h2), hx2, he2]
  have rC : ¬ bits < L → ¬ (2 ^ L ≤ PL ∨ PL * 2 ^ (bits - L) < free) → r = ⟨e3, ⟨L, PL, hh⟩, l3⟩ := fun h h2 => by rw [hrd, Pp.rd, if_neg (by rw [← hL]; exact h), if_neg (by rw [← hL, ← hPL]; exact h2), he3, hl3, hhh, hl2, he2, hL, hPL]
  have HN1 := Lib.hid (fun (v : World) (h : Rd v top b l 0) (ht : Tab v) => (num_all top b l 0 Pp.MX v h ht hb0).mono (fun e w' (h : NumPost v top b (gNum l 0 Pp.MX) e w') => show e = .returned (.int .i64 (L : Int)) ∧ Rd w' top b l1 e1 ∧ Kept v.heap.size b v w' from by
    obtain ⟨rfl, h2, h3⟩ := h
    rw [hL, Pp.lev_cast, hl1, he1]
    exact ⟨rfl, h2, h3⟩))
  have HN2 := Lib.hid (fun (v : World) (h : Rd v top b l1 e1) (ht : Tab v) => (num_all top b l1 e1 Pp.MX v h ht hb0).mono (fun e w' (h : NumPost v top b (gNum l1 e1 Pp.MX) e w') => show e = .returned (.int .i64 (PL : Int)) ∧ Rd w' top b l2 e2 ∧ Kept v.heap.size b v w' from by
    obtain ⟨rfl, h2, h3⟩ := h
    rw [hl1, he1] at h2 ⊢
    rw [hPL, Pp.r2_cast, hl2, he2]
    exact ⟨rfl, h2, h3⟩))
  have HHS := Lib.hid (fun (v : World) (h : Rd v top b l2 e2) => (hash_all top b l2 e2 v h).mono (fun e w' (h : HashPost v top b (gHash l2 e2) e w') => show e = .returned (.agg (bcells hh).toArray) ∧ Rd w' top b l3 e3 ∧ Kept v.heap.size b v w' from by
    obtain ⟨rfl, h2, h3⟩ := h
    rw [hhh, hl3, he3]
    exact ⟨rfl, h2, h3⟩))
  have HF1 := Lib.hid (fun (v : World) (h : Rd v top b l1 e1) => (fail_rd top b l1 e1 3 v h).mono (fun e w' (hq : _ ∧ _ ∧ _) => show e = .returned (.tuple #[]) ∧ Rd w' top b [] x1 ∧ Kept v.heap.size b v w' from by
    obtain ⟨rfl, h2, h3⟩ := hq
    have e0 : (if e1 = 0 ∧ (3 : Int) ≠ 0 then [] else l1) = [] := by
      split
      · rfl
      · rename_i hn
        exact h.fail (fun h0 => hn ⟨h0, by decide⟩)
    rw [e0, ← hx1] at h2
    exact ⟨rfl, h2, h3⟩))
  have HF2 := Lib.hid (fun (v : World) (h : Rd v top b l2 e2) => (fail_rd top b l2 e2 3 v h).mono (fun e w' (hq : _ ∧ _ ∧ _) => show e = .returned (.tuple #[]) ∧ Rd w' top b [] x2 ∧ Kept v.heap.size b v w' from by
    obtain ⟨rfl, h2, h3⟩ := hq
    have e0 : (if e2 = 0 ∧ (3 : Int) ≠ 0 then [] else l2) = [] := by
      split
      · rfl
      · rename_i hn
        exact h.fail (fun h0 => hn ⟨h0, by decide⟩)
    rw [e0, ← hx2] at h2
    exact ⟨rfl, h2, h3⟩))
  have RA := Lib.hid rA
  have RB := Lib.hid rB
  have RC := Lib.hid rC
  have HHL := Lib.hid (show hh.length = 32 by rw [hhh]; exact gHash_length _ _)
  have hL0 : (L : Int) ≤ 4611686018427387903 := by rw [hL, Pp.lev_cast]; exact (Pp.gNum_val l 0 Pp.MX).2
  have hP0 : (PL : Int) ≤ 4611686018427387903 := by rw [hPL, Pp.r2_cast]; exact (Pp.gNum_val _ _ Pp.MX).2
  rw [← hrd]
  clear rA rB rC hrd hL hPL hl1 he1 hl2 he2 hhh hl3 he3 hx1 hx2 hR hr hne hb0 ht hb hbl hrl k2 hA hS
  have hbi : (bits : Int) ≤ 32 := by have := HB.out; omega
  have hb0i : (0 : Int) ≤ (bits : Int) := by omega
  go_enter Tryd.func32, Tryd.ntmps32
  go_upto_region 0 with fail
  refine wp_region_lit ?_
  refine @wpL_alloc _ _ _ _ _ _ _ _ ?hw6001 54 rfl _ (alloc_seed _) ?_
  case hw6001 => kernel_rfl
  simp only [Act.put, List.setIfInBounds_toArray, List.set_cons_zero, List.set_cons_succ]
  go_upto_region 1 with fail
  refine wp_region_lit ?_
  refine @wpL_alloc _ _ _ _ _ _ _ _ ?hw6002 54 rfl _ (alloc_seed _) ?_
  case hw6002 => kernel_rfl
  simp only [Act.put, List.setIfInBounds_toArray, List.set_cons_zero, List.set_cons_succ]
  rw [show (w.alloc (.cells zeros34 54)).heap.size = w.heap.size + 1 by simp]
  generalize (w.alloc (.cells zeros34 54)).alloc (.cells zeros34 54) = w2 at K2 A2 S2 RD2 RR2 T2 ⊢
  obtain ⟨wa, hwa⟩ : ∃ wa, wa = w.heap.size := ⟨_, rfl⟩
  rw [← hwa] at A2 S2 HBL HRL HTOP ⊢
  have HWA := Lib.hid hwa
  clear hwa
  go_upto_region 2 with fail
  refine wp_region_lit ?_
  refine @BigFrame.wpList_want _ _ _ _ _ _ _ ?hw6004 ?_
  case hw6004 => kernel_rfl
  intro K hK
  go_simp
  refine hK _ _ ?_
  clear hK K
  refine @BigFrame.wpList_want _ _ _ _ _ _ _ ?hw6003 ?_
  case hw6003 => kernel_rfl
  intro K hK
  go_simp
  go_at_call 30
  refine (HN1.out w2 RD2.out T2.out).mono ?_
  rintro e w3 ⟨rfl, rd3, k3⟩
  have RD3 := Lib.hid rd3
  have A3 := Lib.hid ((k3.block wa (lt_of_block A2.out) (Nat.ne_of_gt HBL.out)).trans A2.out)
  have S3 := Lib.hid ((k3.block (wa + 1) (lt_of_block S2.out) (by have := HBL.out; omega)).trans S2.out)
  have RR3 := Lib.hid ((k3.block rb (lt_of_block RR2.out) HNE.out).trans RR2.out)
  have T3 := Lib.hid (T2.out.kept k3 T2.out.lt HB0.out)
  have K3 := Lib.hid (K2.out.step k3)
  have c30 := cells_get (j := 0) S3.out rfl
  have f30 := cells_free S3.out 0
  clear rd3 k3
  refine hK _ _ ?_
  clear hK K
  refine @BigFrame.wpList_want _ _ _ _ _ _ _ ?hw6005 ?_
  case hw6005 => kernel_rfl
  intro K hK
  go_simp
  refine hK _ _ ?_
  clear hK K
  refine @BigFrame.wpList_want _ _ _ _ _ _ _ ?hw6006 ?_
  case hw6006 => kernel_rfl
  intro K hK
  go_simp
  refine hK _ _ ?_
  clear hK K
  clear c30 f30
  refine wpList_nil ?_
  have kS : Kept wa wa w3 (w3.setCell ⟨wa + 1, 0, none⟩ (.int .i64 (L : Int))) := (Kept.refl _ _ _).set (b' := wa + 1) (.inr (by omega)) 0 _
  have RD4 := Lib.hid (RD3.out.kept kS HTOP.out HTOP.out)
  have A4 := Lib.hid ((setCell_other w3 (wa + 1) 0 (.int .i64 (L : Int)) wa (by omega)).trans A3.out)
  have S4 := Lib.hid (cells_set S3.out 0 (.int .i64 (L : Int)))
  rw [Pp.cells_lev] at S4
  have RR4 := Lib.hid ((kS.block rb HRL.out (Nat.ne_of_lt HRL.out)).trans RR3.out)
  have T4 := Lib.hid (T3.out.kept kS (by have := HBL.out; have := HB0.out; omega) (by have := HBL.out; have := HB0.out; omega))
  have K4 := Lib.hid (K3.out.set (b' := wa + 1) (.inr (by rw [← HWA.out]; omega)) 0 (.int .i64 (L : Int)))
  clear kS
  generalize w3.setCell ⟨wa + 1, 0, none⟩ (.int .i64 (L : Int)) = w4 at RD4 A4 S4 RR4 T4 K4 ⊢
  go_upto_region 3 with fail
  refine wp_region_noPanic ?_
  refine wp_region_held_drew (S := fun w' => Kept w4.heap.size w4.heap.size w4 w') (by kernel_rfl) ((Kept.refl _ _ _).drew) (fun hH => ?_)
  refine wpAnyH_take_ex (i := 0) 11 rfl rfl (by kernel_rfl) (by kernel_rfl) (by kernel_rfl) (fun _ _ _ _ h => h) (by kernel_rfl) hH ?_
  apply Exists.intro
  apply And.intro
  · intro w9 _
    go_simp
    first | done | rfl
  simp only [List.setIfInBounds_toArray, List.set_cons_zero, List.set_cons_succ]
  refine wpAnyH_take_at (i := 1) 12 (.int .i64 (L : Int)) rfl rfl (by kernel_rfl) (by kernel_rfl) (by kernel_rfl) (fun _ _ _ h => h) (yieldsIf_load_known (by kernel_rfl) 3 _ rfl (wa + 1) (0) rfl (.int .i64 (L : Int)) (fun w' hw' => load_int (cells_get (j := 0) ((hw'.block (wa + 1) (lt_of_block S4.out) (Nat.ne_of_lt (lt_of_block S4.out))).trans S4.out) rfl))) hH ?_
  simp only [List.setIfInBounds_toArray, List.set_cons_zero, List.set_cons_succ]
  refine wpAnyH_take_ex (i := 2) 13 rfl rfl (by kernel_rfl) (by kernel_rfl) (by kernel_rfl) (fun _ _ _ _ h => h) (by kernel_rfl) hH ?_
  apply Exists.intro
  apply And.intro
  · intro w9 _
    go_simp
    first | done | rfl
  simp only [List.setIfInBounds_toArray, List.set_cons_zero, List.set_cons_succ]
  refine wpAnyH_take_ex (i := 3) 14 rfl rfl (by kernel_rfl) (by kernel_rfl) (by kernel_rfl) (fun _ _ _ _ h => h) (by kernel_rfl) hH ?_
  apply Exists.intro
  apply And.intro
  · intro w9 _
    go_simp
    first | done | rfl
  simp only [List.setIfInBounds_toArray, List.set_cons_zero, List.set_cons_succ]
  refine wpAnyH_take_ex (i := 4) 15 rfl rfl (by kernel_rfl) (by kernel_rfl) (by kernel_rfl) (fun _ _ _ _ h => h) (by kernel_rfl) hH ?_
  apply Exists.intro
  apply And.intro
  · intro w9 _
    go_simp
    first | done | rfl
  simp only [List.setIfInBounds_toArray, List.set_cons_zero, List.set_cons_succ]
  refine wpAnyH_take_at (i := 5) 16 (.int .i64 (bits : Int)) rfl rfl (by kernel_rfl) (by kernel_rfl) (by kernel_rfl) (fun _ _ _ h => h) (yieldsIf_load_known (by kernel_rfl) 3 _ rfl (rb) (0) rfl (.int .i64 (bits : Int)) (fun w' hw' => load_int (two_cell0 ((hw'.block rb (lt_of_block RR4.out) (Nat.ne_of_lt (lt_of_block RR4.out))).trans RR4.out)))) hH ?_
  simp only [List.setIfInBounds_toArray, List.set_cons_zero, List.set_cons_succ]
  refine wpAnyH_take_ex (i := 6) 17 rfl rfl (by kernel_rfl) (by kernel_rfl) (by kernel_rfl) (fun _ _ _ _ h => h) (by kernel_rfl) hH ?_
  apply Exists.intro
  apply And.intro
  · intro w9 _
    go_simp
    first | done | rfl
  simp only [List.setIfInBounds_toArray, List.set_cons_zero, List.set_cons_succ]
  refine wpAnyH_done (by kernel_rfl) ?_ _
  refine NoPanic.normal ?_
  have RD4d := Lib.hid (RD4.out.same (w' := w4.drew) (Nat.le_refl _) (fun _ _ => rfl))
  have A4d := Lib.hid (show w4.drew.heap[wa]? = _ from A4.out)
  have S4d := Lib.hid (show w4.drew.heap[wa + 1]? = _ from S4.out)
  have RR4d := Lib.hid (show w4.drew.heap[rb]? = _ from RR4.out)
  have T4d := Lib.hid T4.out.drew
  have K4d := Lib.hid K4.out.drew
  generalize w4.drew = w5 at RD4d A4d S4d RR4d T4d K4d ⊢
  have RD5 := RD4d
  have A5 := A4d
  have S5 := S4d
  have RR5 := RR4d
  have T5 := T4d
  have K5 := K4d
  clear RD4d A4d S4d RR4d T4d K4d
  by_cases hA : bits < L
  · have HA := Lib.hid hA
    have hgt : (L : Int) > (bits : Int) := by omega
    go_upto_region 4 with fail
    refine wp_region_lit ?_
    refine @BigFrame.wpList_want _ _ _ _ _ _ _ ?hw6008 ?_
    case hw6008 => kernel_rfl
    intro K hK
    go_simp
    refine hK _ _ ?_
    clear hK K
    refine @BigFrame.wpList_want _ _ _ _ _ _ _ ?hw6007 ?_
    case hw6007 => kernel_rfl
    intro K hK
    go_simp
    go_at_call 56
    refine (HF1.out w5 RD5.out).mono ?_
    rintro e w6 ⟨rfl, rd6, k6⟩
    have RD6 := Lib.hid rd6
    have A6 := Lib.hid ((k6.block wa (lt_of_block A5.out) (Nat.ne_of_gt HBL.out)).trans A5.out)
    have S6 := Lib.hid ((k6.block (wa + 1) (lt_of_block S5.out) (by have := HBL.out; omega)).trans S5.out)
    have RR6 := Lib.hid ((k6.block rb (lt_of_block RR5.out) HNE.out).trans RR5.out)
    have T6 := Lib.hid (T5.out.kept k6 T5.out.lt HB0.out)
    have K6 := Lib.hid (K5.out.step k6)
    clear rd6 k6
    refine hK _ _ ?_
    clear hK K
    go_upto_region 5 with fail
    refine wp_region_lit ?_
    refine @wpL_build0 _ _ _ _ _ _ _ ?hw6009 54 rfl _ (build_seed0 _) ?_
    case hw6009 => kernel_rfl
    simp only [Act.put, List.setIfInBounds_toArray, List.set_cons_zero, List.set_cons_succ]
    refine wpList_store_row rfl 54 _ _ rfl (wa) zeros34 rfl rfl 54 zeros34 (A6.out) (seedInfoA zeros34_size) rfl (by rw [zeros34_cells]; exact Pp.cells_all _) ?_
    simp only [Act.put]
    refine wpList_nil ?_
    obtain ⟨t1, t2, t3⟩ : Kept w.heap.size b w (w6.setRow wa zeros34) ∧ (w6.setRow wa zeros34).heap[wa]? = some (.cells zeros34 54 (0, 0)) ∧ Rd (w6.setRow wa zeros34) top b r.l r.e := by
      refine ⟨K6.out.trans ⟨rfl, rfl, rfl, by simp [World.setRow], fun k hk _ => setRow_other w6 wa k zeros34 (by rw [HWA.out]; omega)⟩, setRow_heap w6 wa zeros34 zeros34 _ _ A6.out, ?_⟩
      rw [RA.out HA.out]
      exact RD6.out.same (by simp [World.setRow]) (fun k hk => setRow_other w6 wa k zeros34 (by have := HTOP.out; omega))
    generalize w6.setRow wa zeros34 = wz at t1 t2 t3 ⊢
    have T1 := Lib.hid t1
    have T2z := Lib.hid t2
    have T3 := Lib.hid t3
    clear t1 t2 t3
    go_wp2_with fail
    refine bodyPost_ret (results_cell_row rfl _ _ wa 54 zeros34 (0, 0) _ rfl T2z.out Tryd.underlying54 rfl (seedInfoA (by exact zeros34_size))) rfl ?_
    exact ⟨by rw [RA.out HA.out, zeros34_cells], T3.out, T1.out⟩
  · have HA := Lib.hid hA
    have hgt : ¬ (L : Int) > (bits : Int) := by omega
    have hL32 : (L : Int) ≤ 32 := by omega
    have hL00 : (0 : Int) ≤ (L : Int) := by omega
    go_upto_region 6 with fail
    refine wp_region_lit ?_
    refine @BigFrame.wpList_want _ _ _ _ _ _ _ ?hw6011 ?_
    case hw6011 => kernel_rfl
    intro K hK
    go_simp
    refine hK _ _ ?_
    clear hK K
    refine @BigFrame.wpList_want _ _ _ _ _ _ _ ?hw6010 ?_
    case hw6010 => kernel_rfl
    intro K hK
    go_simp
    go_at_call 30
    refine (HN2.out w5 RD5.out T5.out).mono ?_
    rintro e w6 ⟨rfl, rd6, k6⟩
    have RD6 := Lib.hid rd6
    have A6 := Lib.hid ((k6.block wa (lt_of_block A5.out) (Nat.ne_of_gt HBL.out)).trans A5.out)
    have S6 := Lib.hid ((k6.block (wa + 1) (lt_of_block S5.out) (by have := HBL.out; omega)).trans S5.out)
    have RR6 := Lib.hid ((k6.block rb (lt_of_block RR5.out) HNE.out).trans RR5.out)
    have T6 := Lib.hid (T5.out.kept k6 T5.out.lt HB0.out)
    have K6 := Lib.hid (K5.out.step k6)
    have c61 := cells_get (j := 1) S6.out rfl
    have f61 := cells_free S6.out 1
    clear rd6 k6
    refine hK _ _ ?_
    clear hK K
    refine @BigFrame.wpList_want _ _ _ _ _ _ _ ?hw6012 ?_
    case hw6012 => kernel_rfl
    intro K hK
    go_simp
    refine hK _ _ ?_
    clear hK K
    refine @BigFrame.wpList_want _ _ _ _ _ _ _ ?hw6013 ?_
    case hw6013 => kernel_rfl
    intro K hK
    go_simp
    refine hK _ _ ?_
    clear hK K
    clear c61 f61
    refine wpList_nil ?_
    have kS : Kept wa wa w6 (w6.setCell ⟨wa + 1, 1, none⟩ (.int .i64 (PL : Int))) := (Kept.refl _ _ _).set (b' := wa + 1) (.inr (by omega)) 1 _
    have RD7 := Lib.hid (RD6.out.kept kS HTOP.out HTOP.out)
    have A7 := Lib.hid ((setCell_other w6 (wa + 1) 1 (.int .i64 (PL : Int)) wa (by omega)).trans A6.out)
    have S7 := Lib.hid (cells_set S6.out 1 (.int .i64 (PL : Int)))
    rw [Pp.cells_place] at S7
    have RR7 := Lib.hid ((kS.block rb HRL.out (Nat.ne_of_lt HRL.out)).trans RR6.out)
    have T7 := Lib.hid (T6.out.kept kS (by have := HBL.out; have := HB0.out; omega) (by have := HBL.out; have := HB0.out; omega))
    have K7 := Lib.hid (K6.out.set (b' := wa + 1) (.inr (by rw [← HWA.out]; omega)) 1 (.int .i64 (PL : Int)))
    clear kS
    generalize w6.setCell ⟨wa + 1, 1, none⟩ (.int .i64 (PL : Int)) = w7 at RD7 A7 S7 RR7 T7 K7 ⊢
    go_upto_region 7 with fail
    have hpw : 2 ^ L ≤ 2 ^ 32 := Nat.pow_le_pow_right (by decide) (by omega)
    obtain ⟨PW, hPW⟩ : ∃ PW, PW = 2 ^ L := ⟨_, rfl⟩
    have hw : IntKind.i64.wrap ((2 : Int) ^ L) = (PW : Int) := by
      have e : ((2 : Int) ^ L) = ((2 ^ L : Nat) : Int) := by simp
      rw [e, ← hPW, IntKind.wrap_i64]
      rw [← hPW] at hpw
      omega
    have HPW := Lib.hid hPW
    clear hPW hpw
    by_cases hB : PW ≤ PL
    · have hBi : (PW : Int) ≤ (PL : Int) := by omega
      have HBB := Lib.hid hB
      clear hB
      refine wp_region_noPanic ?_
      refine wp_region_held_drew (S := fun w' => Kept w7.heap.size w7.heap.size w7 w') (by kernel_rfl) ((Kept.refl _ _ _).drew) (fun hH => ?_)
      refine wpAnyH_take_ex (i := 0) 24 rfl rfl (by kernel_rfl) (by kernel_rfl) (by kernel_rfl) (fun _ _ _ _ h => h) (by kernel_rfl) hH ?_
      apply Exists.intro
      apply And.intro
      · intro w9 _
        go_simp
        first | done | rfl
      simp only [List.setIfInBounds_toArray, List.set_cons_zero, List.set_cons_succ]
      refine wpAnyH_take_at (i := 1) 25 (.int .i64 (PL : Int)) rfl rfl (by kernel_rfl) (by kernel_rfl) (by kernel_rfl) (fun _ _ _ h => h) (yieldsIf_load_known (by kernel_rfl) 3 _ rfl (wa + 1) (1) rfl (.int .i64 (PL : Int)) (fun w' hw' => load_int (cells_get (j := 1) ((hw'.block (wa + 1) (lt_of_block S7.out) (Nat.ne_of_lt (lt_of_block S7.out))).trans S7.out) rfl))) hH ?_
      simp only [List.setIfInBounds_toArray, List.set_cons_zero, List.set_cons_succ]
      refine wpAnyH_take_ex (i := 2) 26 rfl rfl (by kernel_rfl) (by kernel_rfl) (by kernel_rfl) (fun _ _ _ _ h => h) (by kernel_rfl) hH ?_
      apply Exists.intro
      apply And.intro
      · intro w9 _
        go_simp
        first | done | rfl
      simp only [List.setIfInBounds_toArray, List.set_cons_zero, List.set_cons_succ]
      refine wpAnyH_take_at (i := 3) 27 (.int .i64 (L : Int)) rfl rfl (by kernel_rfl) (by kernel_rfl) (by kernel_rfl) (fun _ _ _ h => h) (yieldsIf_load_known (by kernel_rfl) 3 _ rfl (wa + 1) (0) rfl (.int .i64 (L : Int)) (fun w' hw' => load_int (cells_get (j := 0) ((hw'.block (wa + 1) (lt_of_block S7.out) (Nat.ne_of_lt (lt_of_block S7.out))).trans S7.out) rfl))) hH ?_
      simp only [List.setIfInBounds_toArray, List.set_cons_zero, List.set_cons_succ]
      refine wpAnyH_take_ex (i := 4) 28 rfl rfl (by kernel_rfl) (by kernel_rfl) (by kernel_rfl) (fun _ _ _ _ h => h) (by kernel_rfl) hH ?_
      apply Exists.intro
      apply And.intro
      · intro w9 _
        go_simp
        first | done | rfl
      simp only [List.setIfInBounds_toArray, List.set_cons_zero, List.set_cons_succ]
      refine wpAnyH_take_ex (i := 5) 29 rfl rfl (by kernel_rfl) (by kernel_rfl) (by kernel_rfl) (fun _ _ _ _ h => h) (by kernel_rfl) hH ?_
      apply Exists.intro
      apply And.intro
      · intro w9 _
        go_simp
        first | done | rfl
      simp only [List.setIfInBounds_toArray, List.set_cons_zero, List.set_cons_succ]
      refine wpAnyH_take_ex (i := 6) 30 rfl rfl (by kernel_rfl) (by kernel_rfl) (by kernel_rfl) (fun _ _ _ _ h => h) (by kernel_rfl) hH ?_
      apply Exists.intro
      apply And.intro
      · intro w9 _
        go_simp
        first | done | rfl
      simp only [List.setIfInBounds_toArray, List.set_cons_zero, List.set_cons_succ]
      refine wpAnyH_take_at (i := 7) 31 undef rfl rfl (by kernel_rfl) (by kernel_rfl) (by kernel_rfl) (fun _ _ _ h => h) (.inr ⟨by kernel_rfl, rfl⟩) hH ?_
      simp only [List.setIfInBounds_toArray, List.set_cons_zero, List.set_cons_succ]
      refine wpAnyH_take_at (i := 8) 32 undef rfl rfl (by kernel_rfl) (by kernel_rfl) (by kernel_rfl) (fun _ _ _ h => h) (.inr ⟨by kernel_rfl, rfl⟩) hH ?_
      simp only [List.setIfInBounds_toArray, List.set_cons_zero, List.set_cons_succ]
      refine wpAnyH_take_at (i := 9) 33 undef rfl rfl (by kernel_rfl) (by kernel_rfl) (by kernel_rfl) (fun _ _ _ h => h) (.inr ⟨by kernel_rfl, rfl⟩) hH ?_
      simp only [List.setIfInBounds_toArray, List.set_cons_zero, List.set_cons_succ]
      refine wpAnyH_take_at (i := 10) 34 undef rfl rfl (by kernel_rfl) (by kernel_rfl) (by kernel_rfl) (fun _ _ _ h => h) (.inr ⟨by kernel_rfl, rfl⟩) hH ?_
      simp only [List.setIfInBounds_toArray, List.set_cons_zero, List.set_cons_succ]
      refine wpAnyH_take_at (i := 11) 35 undef rfl rfl (by kernel_rfl) (by kernel_rfl) (by kernel_rfl) (fun _ _ _ h => h) (.inr ⟨by kernel_rfl, rfl⟩) hH ?_
      simp only [List.setIfInBounds_toArray, List.set_cons_zero, List.set_cons_succ]
      refine wpAnyH_take_ex (i := 12) 36 rfl rfl (by kernel_rfl) (by kernel_rfl) (by kernel_rfl) (fun _ _ _ _ h => h) (by kernel_rfl) hH ?_
      apply Exists.intro
      apply And.intro
      · intro w9 _
        go_simp
        first | done | rfl
      simp only [List.setIfInBounds_toArray, List.set_cons_zero, List.set_cons_succ]
      refine wpAnyH_done (by kernel_rfl) ?_ _
      refine NoPanic.normal ?_
      have kk7 := (Kept.refl w7.heap.size w7.heap.size w7).drew
      have hsz7 : w.heap.size ≤ w7.heap.size := K7.out.size
      have RD8 := Lib.hid (RD7.out.kept kk7 (by have := HTOP.out; have := HWA.out; omega) (by have := HTOP.out; have := HWA.out; omega))
      have A8 := Lib.hid ((kk7.block wa (lt_of_block A7.out) (Nat.ne_of_lt (lt_of_block A7.out))).trans A7.out)
      have S8 := Lib.hid ((kk7.block (wa + 1) (lt_of_block S7.out) (Nat.ne_of_lt (lt_of_block S7.out))).trans S7.out)
      have RR8 := Lib.hid ((kk7.block rb (lt_of_block RR7.out) (Nat.ne_of_lt (lt_of_block RR7.out))).trans RR7.out)
      have T8 := Lib.hid (T7.out.kept kk7 T7.out.lt T7.out.lt)
      have K8 := Lib.hid (K7.out.trans (kk7.mono hsz7 (fun k hk _ => Nat.ne_of_lt (Nat.lt_of_lt_of_le hk hsz7))))
      clear kk7 hsz7
      generalize w7.drew = w8 at RD8 A8 S8 RR8 T8 K8 ⊢
      clear hw hBi
      go_upto_region 8 with fail
      refine wp_region_lit ?_
      refine @BigFrame.wpList_want _ _ _ _ _ _ _ ?hw6015 ?_
      case hw6015 => kernel_rfl
      intro K hK
      go_simp
      refine hK _ _ ?_
      clear hK K
      refine @BigFrame.wpList_want _ _ _ _ _ _ _ ?hw6014 ?_
      case hw6014 => kernel_rfl
      intro K hK
      go_simp
      go_at_call 56
      refine (HF2.out w8 RD8.out).mono ?_
      rintro e w9 ⟨rfl, rdx, kx⟩
      have RD9 := Lib.hid rdx
      have A9 := Lib.hid ((kx.block wa (lt_of_block A8.out) (Nat.ne_of_gt HBL.out)).trans A8.out)
      have S9 := Lib.hid ((kx.block (wa + 1) (lt_of_block S8.out) (by have := HBL.out; omega)).trans S8.out)
      have RR9 := Lib.hid ((kx.block rb (lt_of_block RR8.out) HNE.out).trans RR8.out)
      have T9 := Lib.hid (T8.out.kept kx T8.out.lt HB0.out)
      have K9 := Lib.hid (K8.out.step kx)
      clear rdx kx
      refine hK _ _ ?_
      clear hK K
      go_upto_region 9 with fail
      refine wp_region_lit ?_
      refine @wpL_build0 _ _ _ _ _ _ _ ?hw6016 54 rfl _ (build_seed0 _) ?_
      case hw6016 => kernel_rfl
      simp only [Act.put, List.setIfInBounds_toArray, List.set_cons_zero, List.set_cons_succ]
      refine wpList_store_row rfl 54 _ _ rfl (wa) zeros34 rfl rfl 54 zeros34 (A9.out) (seedInfoA zeros34_size) rfl (by rw [zeros34_cells]; exact Pp.cells_all _) ?_
      simp only [Act.put]
      refine wpList_nil ?_
      obtain ⟨t1, t2, t3⟩ : Kept w.heap.size b w (w9.setRow wa zeros34) ∧ (w9.setRow wa zeros34).heap[wa]? = some (.cells zeros34 54 (0, 0)) ∧ Rd (w9.setRow wa zeros34) top b r.l r.e := by
        refine ⟨K9.out.trans ⟨rfl, rfl, rfl, by simp [World.setRow], fun k hk _ => setRow_other w9 wa k zeros34 (by rw [HWA.out]; omega)⟩, setRow_heap w9 wa zeros34 zeros34 _ _ A9.out, ?_⟩
        rw [RB.out HA.out (.inl (by rw [← HPW.out]; exact HBB.out))]
        exact RD9.out.same (by simp [World.setRow]) (fun k hk => setRow_other w9 wa k zeros34 (by have := HTOP.out; omega))
      generalize w9.setRow wa zeros34 = wz at t1 t2 t3 ⊢
      have T1 := Lib.hid t1
      have T2z := Lib.hid t2
      have T3 := Lib.hid t3
      clear t1 t2 t3
      go_wp2_with fail
      refine bodyPost_ret (results_cell_row rfl _ _ wa 54 zeros34 (0, 0) _ rfl T2z.out Tryd.underlying54 rfl (seedInfoA (by exact zeros34_size))) rfl ?_
      exact ⟨by rw [RB.out HA.out (.inl (by rw [← HPW.out]; exact HBB.out)), zeros34_cells], T3.out, T1.out⟩
    · have hBi : ¬ (PW : Int) ≤ (PL : Int) := by omega
      have HBB := Lib.hid hB
      have HIN := Lib.hid (show Pp.In bits ⟨L, PL, Pp.z32u⟩ from ⟨by show L ≤ bits; have := HA.out; omega, by show PL < 2 ^ L; rw [← HPW.out]; omega, rfl⟩)
      clear hB
      have hstc := fun v h => start_calls bits HB.out ⟨L, PL, Pp.z32u⟩ HIN.out rb sl v h
      have HSI := Lib.hid (seedInfoA (show (Pp.cells ⟨L, PL, Pp.z32u⟩).toArray.size = 34 by rw [List.size_toArray, Pp.cells_length HIN.out]))
      obtain ⟨SC, hSC⟩ : ∃ SC, SC = (Pp.cells ⟨L, PL, Pp.z32u⟩).toArray := ⟨_, rfl⟩
      have HSL := Lib.hid (fun (v : World) (k : Kept w7.heap.size w7.heap.size w7 v) => run_loadVar_row v (wa + 1) 54 54 SC (0, 0) _ (by rw [hSC]; exact (k.block (wa + 1) (lt_of_block S7.out) (Nat.ne_of_lt (lt_of_block S7.out))).trans S7.out) Tryd.underlying54 rfl (by rw [hSC]; exact HSI.out))
      rw [← hSC] at hstc
      obtain ⟨ST, hST⟩ : ∃ ST, ST = Pp.start bits ⟨L, PL, Pp.z32u⟩ := ⟨_, rfl⟩
      simp only [← hST] at hstc
      have HST := Lib.hid (show ST = PL * 2 ^ (bits - L) from hST)
      have HSTC := Lib.hid (fun (v : World) (k : Kept w7.heap.size w7.heap.size w7 v) => hstc v ((k.block rb (lt_of_block RR7.out) (Nat.ne_of_lt (lt_of_block RR7.out))).trans RR7.out))
      clear hstc hSC hST
      have KD0 : Kept w7.heap.size w7.heap.size w7 w7.drew := (Kept.refl _ _ _).drew
      by_cases hC : ST < free
      · have hCi : (ST : Int) < (free : Int) := by omega
        have HCC := Lib.hid hC
        clear hC
        refine wp_region_noPanic ?_
        refine wp_region_held_drew (S := fun w' => Kept w7.heap.size w7.heap.size w7 w') (by kernel_rfl) ((Kept.refl _ _ _).drew) (fun hH => ?_)
        refine wpAnyH_take_ex (i := 0) 24 rfl rfl (by kernel_rfl) (by kernel_rfl) (by kernel_rfl) (fun _ _ _ _ h => h) (by kernel_rfl) hH ?_
        apply Exists.intro
        apply And.intro
        · intro w9 _
          go_simp
          first | done | rfl
        simp only [List.setIfInBounds_toArray, List.set_cons_zero, List.set_cons_succ]
        refine wpAnyH_take_at (i := 1) 25 (.int .i64 (PL : Int)) rfl rfl (by kernel_rfl) (by kernel_rfl) (by kernel_rfl) (fun _ _ _ h => h) (yieldsIf_load_known (by kernel_rfl) 3 _ rfl (wa + 1) (1) rfl (.int .i64 (PL : Int)) (fun w' hw' => load_int (cells_get (j := 1) ((hw'.block (wa + 1) (lt_of_block S7.out) (Nat.ne_of_lt (lt_of_block S7.out))).trans S7.out) rfl))) hH ?_
        simp only [List.setIfInBounds_toArray, List.set_cons_zero, List.set_cons_succ]
        refine wpAnyH_take_ex (i := 2) 26 rfl rfl (by kernel_rfl) (by kernel_rfl) (by kernel_rfl) (fun _ _ _ _ h => h) (by kernel_rfl) hH ?_
        apply Exists.intro
        apply And.intro
        · intro w9 _
          go_simp
          first | done | rfl
        simp only [List.setIfInBounds_toArray, List.set_cons_zero, List.set_cons_succ]
        refine wpAnyH_take_at (i := 3) 27 (.int .i64 (L : Int)) rfl rfl (by kernel_rfl) (by kernel_rfl) (by kernel_rfl) (fun _ _ _ h => h) (yieldsIf_load_known (by kernel_rfl) 3 _ rfl (wa + 1) (0) rfl (.int .i64 (L : Int)) (fun w' hw' => load_int (cells_get (j := 0) ((hw'.block (wa + 1) (lt_of_block S7.out) (Nat.ne_of_lt (lt_of_block S7.out))).trans S7.out) rfl))) hH ?_
        simp only [List.setIfInBounds_toArray, List.set_cons_zero, List.set_cons_succ]
        refine wpAnyH_take_ex (i := 4) 28 rfl rfl (by kernel_rfl) (by kernel_rfl) (by kernel_rfl) (fun _ _ _ _ h => h) (by kernel_rfl) hH ?_
        apply Exists.intro
        apply And.intro
        · intro w9 _
          go_simp
          first | done | rfl
        simp only [List.setIfInBounds_toArray, List.set_cons_zero, List.set_cons_succ]
        refine wpAnyH_take_ex (i := 5) 29 rfl rfl (by kernel_rfl) (by kernel_rfl) (by kernel_rfl) (fun _ _ _ _ h => h) (by kernel_rfl) hH ?_
        apply Exists.intro
        apply And.intro
        · intro w9 _
          go_simp
          first | done | rfl
        simp only [List.setIfInBounds_toArray, List.set_cons_zero, List.set_cons_succ]
        refine wpAnyH_take_ex (i := 6) 30 rfl rfl (by kernel_rfl) (by kernel_rfl) (by kernel_rfl) (fun _ _ _ _ h => h) (by kernel_rfl) hH ?_
        apply Exists.intro
        apply And.intro
        · intro w9 _
          go_simp
          first | done | rfl
        simp only [List.setIfInBounds_toArray, List.set_cons_zero, List.set_cons_succ]
        refine wpAnyH_take_ex (i := 7) 31 rfl rfl (by kernel_rfl) (by kernel_rfl) (by kernel_rfl) (fun _ _ _ _ h => h) (by kernel_rfl) hH ?_
        apply Exists.intro
        apply And.intro
        · intro w9 _
          go_simp
          first | done | rfl
        simp only [List.setIfInBounds_toArray, List.set_cons_zero, List.set_cons_succ]
        refine wpAnyH_take_at (i := 8) 32 (.agg SC) rfl rfl (by kernel_rfl) (by kernel_rfl) (by kernel_rfl) (fun _ _ _ h => h) (yieldsIf_load_known (by kernel_rfl) 54 _ rfl (wa + 1) (0) rfl (.agg SC) (fun w' hw' => HSL.out w' hw')) hH ?_
        simp only [List.setIfInBounds_toArray, List.set_cons_zero, List.set_cons_succ]
        refine wpAnyH_take_ex (i := 10) 34 rfl rfl (by kernel_rfl) (by kernel_rfl) (by kernel_rfl) (fun _ _ _ _ h => h) (by kernel_rfl) hH ?_
        apply Exists.intro
        apply And.intro
        · intro w9 _
          go_simp
          first | done | rfl
        simp only [List.setIfInBounds_toArray, List.set_cons_zero, List.set_cons_succ]
        refine wpAnyH_ready (rs := [9]) (by kernel_rfl) (by simp) ?_
        refine AllReadyH.cons rfl (fun K hK => ?_) AllReadyH.nil
        rw [if_pos (by rfl)]
        go_simp
        go_wp2_with (go_at_call 48; refine (HSTC.out _ KD0).mono ?_; rintro e v8 ⟨rfl, kv8⟩)
        have Kv8 : Kept w7.heap.size w7.heap.size w7 v8 := KD0.trans (kv8.mono KD0.size (fun i hi _ => Nat.ne_of_lt (Nat.lt_of_lt_of_le hi KD0.size)))
        refine hK.out _ _ (Kv8) (fun hH => ?_)
        clear hK K
        refine wpAnyH_take_ex (i := 11) 35 rfl rfl (by kernel_rfl) (by kernel_rfl) (by kernel_rfl) (fun _ _ _ _ h => h) (by kernel_rfl) hH ?_
        apply Exists.intro
        apply And.intro
        · intro w9 _
          go_simp
          first | done | rfl
        simp only [List.setIfInBounds_toArray, List.set_cons_zero, List.set_cons_succ]
        refine wpAnyH_take_ex (i := 12) 36 rfl rfl (by kernel_rfl) (by kernel_rfl) (by kernel_rfl) (fun _ _ _ _ h => h) (by kernel_rfl) hH ?_
        apply Exists.intro
        apply And.intro
        · intro w9 _
          go_simp
          first | done | rfl
        simp only [List.setIfInBounds_toArray, List.set_cons_zero, List.set_cons_succ]
        refine wpAnyH_done (by kernel_rfl) ?_ _
        refine NoPanic.normal ?_
        have kk7 := Kv8
        have hsz7 : w.heap.size ≤ w7.heap.size := K7.out.size
        have RD8 := Lib.hid (RD7.out.kept kk7 (by have := HTOP.out; have := HWA.out; omega) (by have := HTOP.out; have := HWA.out; omega))
        have A8 := Lib.hid ((kk7.block wa (lt_of_block A7.out) (Nat.ne_of_lt (lt_of_block A7.out))).trans A7.out)
        have S8 := Lib.hid ((kk7.block (wa + 1) (lt_of_block S7.out) (Nat.ne_of_lt (lt_of_block S7.out))).trans S7.out)
        have RR8 := Lib.hid ((kk7.block rb (lt_of_block RR7.out) (Nat.ne_of_lt (lt_of_block RR7.out))).trans RR7.out)
        have T8 := Lib.hid (T7.out.kept kk7 T7.out.lt T7.out.lt)
        have K8 := Lib.hid (K7.out.trans (kk7.mono hsz7 (fun k hk _ => Nat.ne_of_lt (Nat.lt_of_lt_of_le hk hsz7))))
        clear kk7 hsz7
        clear Kv8 KD0 kv8 hw hBi hCi
        go_upto_region 8 with fail
        refine wp_region_lit ?_
        refine @BigFrame.wpList_want _ _ _ _ _ _ _ ?hw6018 ?_
        case hw6018 => kernel_rfl
        intro K hK
        go_simp
        refine hK _ _ ?_
        clear hK K
        refine @BigFrame.wpList_want _ _ _ _ _ _ _ ?hw6017 ?_
        case hw6017 => kernel_rfl
        intro K hK
        go_simp
        go_at_call 56
        refine (HF2.out v8 RD8.out).mono ?_
        rintro e w9 ⟨rfl, rdx, kx⟩
        have RD9 := Lib.hid rdx
        have A9 := Lib.hid ((kx.block wa (lt_of_block A8.out) (Nat.ne_of_gt HBL.out)).trans A8.out)
        have S9 := Lib.hid ((kx.block (wa + 1) (lt_of_block S8.out) (by have := HBL.out; omega)).trans S8.out)
        have RR9 := Lib.hid ((kx.block rb (lt_of_block RR8.out) HNE.out).trans RR8.out)
        have T9 := Lib.hid (T8.out.kept kx T8.out.lt HB0.out)
        have K9 := Lib.hid (K8.out.step kx)
        clear rdx kx
        refine hK _ _ ?_
        clear hK K
        go_upto_region 9 with fail
        refine wp_region_lit ?_
        refine @wpL_build0 _ _ _ _ _ _ _ ?hw6019 54 rfl _ (build_seed0 _) ?_
        case hw6019 => kernel_rfl
        simp only [Act.put, List.setIfInBounds_toArray, List.set_cons_zero, List.set_cons_succ]
        refine wpList_store_row rfl 54 _ _ rfl (wa) zeros34 rfl rfl 54 zeros34 (A9.out) (seedInfoA zeros34_size) rfl (by rw [zeros34_cells]; exact Pp.cells_all _) ?_
        simp only [Act.put]
        refine wpList_nil ?_
        obtain ⟨t1, t2, t3⟩ : Kept w.heap.size b w (w9.setRow wa zeros34) ∧ (w9.setRow wa zeros34).heap[wa]? = some (.cells zeros34 54 (0, 0)) ∧ Rd (w9.setRow wa zeros34) top b r.l r.e := by
          refine ⟨K9.out.trans ⟨rfl, rfl, rfl, by simp [World.setRow], fun k hk _ => setRow_other w9 wa k zeros34 (by rw [HWA.out]; omega)⟩, setRow_heap w9 wa zeros34 zeros34 _ _ A9.out, ?_⟩
          rw [RB.out HA.out (.inr (by rw [← HST.out]; exact HCC.out))]
          exact RD9.out.same (by simp [World.setRow]) (fun k hk => setRow_other w9 wa k zeros34 (by have := HTOP.out; omega))
        generalize w9.setRow wa zeros34 = wz at t1 t2 t3 ⊢
        have T1 := Lib.hid t1
        have T2z := Lib.hid t2
        have T3 := Lib.hid t3
        clear t1 t2 t3
        go_wp2_with fail
        refine bodyPost_ret (results_cell_row rfl _ _ wa 54 zeros34 (0, 0) _ rfl T2z.out Tryd.underlying54 rfl (seedInfoA (by exact zeros34_size))) rfl ?_
        exact ⟨by rw [RB.out HA.out (.inr (by rw [← HST.out]; exact HCC.out)), zeros34_cells], T3.out, T1.out⟩
      · have hCi : ¬ (ST : Int) < (free : Int) := by omega
        have HCC := Lib.hid hC
        clear hC
        refine wp_region_noPanic ?_
        refine wp_region_held_drew (S := fun w' => Kept w7.heap.size w7.heap.size w7 w') (by kernel_rfl) ((Kept.refl _ _ _).drew) (fun hH => ?_)
        refine wpAnyH_take_ex (i := 0) 24 rfl rfl (by kernel_rfl) (by kernel_rfl) (by kernel_rfl) (fun _ _ _ _ h => h) (by kernel_rfl) hH ?_
        apply Exists.intro
        apply And.intro
        · intro w9 _
          go_simp
          first | done | rfl
        simp only [List.setIfInBounds_toArray, List.set_cons_zero, List.set_cons_succ]
        refine wpAnyH_take_at (i := 1) 25 (.int .i64 (PL : Int)) rfl rfl (by kernel_rfl) (by kernel_rfl) (by kernel_rfl) (fun _ _ _ h => h) (yieldsIf_load_known (by kernel_rfl) 3 _ rfl (wa + 1) (1) rfl (.int .i64 (PL : Int)) (fun w' hw' => load_int (cells_get (j := 1) ((hw'.block (wa + 1) (lt_of_block S7.out) (Nat.ne_of_lt (lt_of_block S7.out))).trans S7.out) rfl))) hH ?_
        simp only [List.setIfInBounds_toArray, List.set_cons_zero, List.set_cons_succ]
        refine wpAnyH_take_ex (i := 2) 26 rfl rfl (by kernel_rfl) (by kernel_rfl) (by kernel_rfl) (fun _ _ _ _ h => h) (by kernel_rfl) hH ?_
        apply Exists.intro
        apply And.intro
        · intro w9 _
          go_simp
          first | done | rfl
        simp only [List.setIfInBounds_toArray, List.set_cons_zero, List.set_cons_succ]
        refine wpAnyH_take_at (i := 3) 27 (.int .i64 (L : Int)) rfl rfl (by kernel_rfl) (by kernel_rfl) (by kernel_rfl) (fun _ _ _ h => h) (yieldsIf_load_known (by kernel_rfl) 3 _ rfl (wa + 1) (0) rfl (.int .i64 (L : Int)) (fun w' hw' => load_int (cells_get (j := 0) ((hw'.block (wa + 1) (lt_of_block S7.out) (Nat.ne_of_lt (lt_of_block S7.out))).trans S7.out) rfl))) hH ?_
        simp only [List.setIfInBounds_toArray, List.set_cons_zero, List.set_cons_succ]
        refine wpAnyH_take_ex (i := 4) 28 rfl rfl (by kernel_rfl) (by kernel_rfl) (by kernel_rfl) (fun _ _ _ _ h => h) (by kernel_rfl) hH ?_
        apply Exists.intro
        apply And.intro
        · intro w9 _
          go_simp
          first | done | rfl
        simp only [List.setIfInBounds_toArray, List.set_cons_zero, List.set_cons_succ]
        refine wpAnyH_take_ex (i := 5) 29 rfl rfl (by kernel_rfl) (by kernel_rfl) (by kernel_rfl) (fun _ _ _ _ h => h) (by kernel_rfl) hH ?_
        apply Exists.intro
        apply And.intro
        · intro w9 _
          go_simp
          first | done | rfl
        simp only [List.setIfInBounds_toArray, List.set_cons_zero, List.set_cons_succ]
        refine wpAnyH_take_ex (i := 6) 30 rfl rfl (by kernel_rfl) (by kernel_rfl) (by kernel_rfl) (fun _ _ _ _ h => h) (by kernel_rfl) hH ?_
        apply Exists.intro
        apply And.intro
        · intro w9 _
          go_simp
          first | done | rfl
        simp only [List.setIfInBounds_toArray, List.set_cons_zero, List.set_cons_succ]
        refine wpAnyH_take_ex (i := 7) 31 rfl rfl (by kernel_rfl) (by kernel_rfl) (by kernel_rfl) (fun _ _ _ _ h => h) (by kernel_rfl) hH ?_
        apply Exists.intro
        apply And.intro
        · intro w9 _
          go_simp
          first | done | rfl
        simp only [List.setIfInBounds_toArray, List.set_cons_zero, List.set_cons_succ]
        refine wpAnyH_take_at (i := 8) 32 (.agg SC) rfl rfl (by kernel_rfl) (by kernel_rfl) (by kernel_rfl) (fun _ _ _ h => h) (yieldsIf_load_known (by kernel_rfl) 54 _ rfl (wa + 1) (0) rfl (.agg SC) (fun w' hw' => HSL.out w' hw')) hH ?_
        simp only [List.setIfInBounds_toArray, List.set_cons_zero, List.set_cons_succ]
        refine wpAnyH_take_ex (i := 10) 34 rfl rfl (by kernel_rfl) (by kernel_rfl) (by kernel_rfl) (fun _ _ _ _ h => h) (by kernel_rfl) hH ?_
        apply Exists.intro
        apply And.intro
        · intro w9 _
          go_simp
          first | done | rfl
        simp only [List.setIfInBounds_toArray, List.set_cons_zero, List.set_cons_succ]
        refine wpAnyH_ready (rs := [9]) (by kernel_rfl) (by simp) ?_
        refine AllReadyH.cons rfl (fun K hK => ?_) AllReadyH.nil
        rw [if_pos (by rfl)]
        go_simp
        go_wp2_with (go_at_call 48; refine (HSTC.out _ KD0).mono ?_; rintro e v8 ⟨rfl, kv8⟩)
        have Kv8 : Kept w7.heap.size w7.heap.size w7 v8 := KD0.trans (kv8.mono KD0.size (fun i hi _ => Nat.ne_of_lt (Nat.lt_of_lt_of_le hi KD0.size)))
        refine hK.out _ _ (Kv8) (fun hH => ?_)
        clear hK K
        refine wpAnyH_take_ex (i := 11) 35 rfl rfl (by kernel_rfl) (by kernel_rfl) (by kernel_rfl) (fun _ _ _ _ h => h) (by kernel_rfl) hH ?_
        apply Exists.intro
        apply And.intro
        · intro w9 _
          go_simp
          first | done | rfl
        simp only [List.setIfInBounds_toArray, List.set_cons_zero, List.set_cons_succ]
        refine wpAnyH_take_ex (i := 12) 36 rfl rfl (by kernel_rfl) (by kernel_rfl) (by kernel_rfl) (fun _ _ _ _ h => h) (by kernel_rfl) hH ?_
        apply Exists.intro
        apply And.intro
        · intro w9 _
          go_simp
          first | done | rfl
        simp only [List.setIfInBounds_toArray, List.set_cons_zero, List.set_cons_succ]
        refine wpAnyH_done (by kernel_rfl) ?_ _
        refine NoPanic.normal ?_
        have kk7 := Kv8
        have hsz7 : w.heap.size ≤ w7.heap.size := K7.out.size
        have RD8 := Lib.hid (RD7.out.kept kk7 (by have := HTOP.out; have := HWA.out; omega) (by have := HTOP.out; have := HWA.out; omega))
        have A8 := Lib.hid ((kk7.block wa (lt_of_block A7.out) (Nat.ne_of_lt (lt_of_block A7.out))).trans A7.out)
        have S8 := Lib.hid ((kk7.block (wa + 1) (lt_of_block S7.out) (Nat.ne_of_lt (lt_of_block S7.out))).trans S7.out)
        have RR8 := Lib.hid ((kk7.block rb (lt_of_block RR7.out) (Nat.ne_of_lt (lt_of_block RR7.out))).trans RR7.out)
        have T8 := Lib.hid (T7.out.kept kk7 T7.out.lt T7.out.lt)
        have K8 := Lib.hid (K7.out.trans (kk7.mono hsz7 (fun k hk _ => Nat.ne_of_lt (Nat.lt_of_lt_of_le hk hsz7))))
        clear kk7 hsz7
        clear Kv8 KD0 kv8 hw hBi hCi
        go_upto_region 10 with fail
        refine wp_region_lit ?_
        refine @BigFrame.wpList_want _ _ _ _ _ _ _ ?hw6021 ?_
        case hw6021 => kernel_rfl
        intro K hK
        go_simp
        refine hK _ _ ?_
        clear hK K
        refine @BigFrame.wpList_want _ _ _ _ _ _ _ ?hw6020 ?_
        case hw6020 => kernel_rfl
        intro K hK
        go_simp
        go_at_call 57
        refine (HHS.out v8 RD8.out).mono ?_
        rintro e w9 ⟨rfl, rd9, k9⟩
        have RD9 := Lib.hid rd9
        have A9 := Lib.hid ((k9.block wa (lt_of_block A8.out) (Nat.ne_of_gt HBL.out)).trans A8.out)
        have S9 := Lib.hid ((k9.block (wa + 1) (lt_of_block S8.out) (by have := HBL.out; omega)).trans S8.out)
        have RR9 := Lib.hid ((k9.block rb (lt_of_block RR8.out) HNE.out).trans RR8.out)
        have T9 := Lib.hid (T8.out.kept k9 T8.out.lt HB0.out)
        have K9 := Lib.hid (K8.out.step k9)
        clear rd9 k9
        refine hK _ _ ?_
        clear hK K
        refine @BigFrame.wpList_want _ _ _ _ _ _ _ ?hw6022 ?_
        case hw6022 => kernel_rfl
        intro K hK
        go_simp
        refine hK _ _ ?_
        clear hK K
        have hth := cells_there S9.out 2 32 (by rw [Pp.cells_length HIN.out]; decide)
        have HDH := Lib.hid (show (bcells hh).toArray.size = 32 by rw [List.size_toArray, bcells_length, HHL.out])
        refine wpList_store_mid rfl 23 _ _ rfl (wa + 1) 2 (bcells hh).toArray rfl rfl (by rw [HDH.out]; exact hth) (by rw [keyInfo HHL.out]) (bcells_all _) ?_
        simp only [Act.put]
        have hlen : (bcells hh).length = 32 := by rw [bcells_length, HHL.out]
        have hrg : (w9.setCells (wa + 1) 2 (bcells hh)).rangeAt (wa + 1) 0 (Pp.cells ⟨L, PL, hh⟩) := fun j u hj => by
          have h0 : w9.rangeAt (wa + 1) 0 [.int .i64 (L : Int), .int .i64 (PL : Int)] := fun j u hj => by
            match j with
            | 0 => cases hj; exact cells_get S9.out rfl
            | 1 => cases hj; exact cells_get S9.out rfl
            | j + 2 => simp at hj
          have h1 := World.rangeAt_setCells_apart h0 (wa + 1) 2 (bcells hh) (.inr (.inl (by simp)))
          have h2 := World.rangeAt_setCells_same w9 (wa + 1) 2 (bcells hh) (by rw [hlen]; exact hth)
          match j with
          | 0 => exact h1 0 u hj
          | 1 => exact h1 1 u hj
          | j + 2 =>
            have := h2 j u hj
            rwa [Nat.add_comm 2 j, ← Nat.zero_add (j + 2)] at this
        have kS : Kept wa wa w9 (w9.setCells (wa + 1) 2 (bcells hh)) := keptSetCells (wa + 1) (by omega) _ _ _
        have RD10 := Lib.hid (RD9.out.kept kS HTOP.out HTOP.out)
        have A10 := Lib.hid ((setCells_other w9 (wa + 1) wa (by omega) (bcells hh) 2).trans A9.out)
        have K10 := Lib.hid (K9.out.trans (kS.mono (by rw [HWA.out]; exact Nat.le_refl _) (fun k hk _ => by rw [HWA.out]; exact Nat.ne_of_lt hk)))
        have RG10 := Lib.hid hrg
        clear hrg kS hth hlen
        generalize w9.setCells (wa + 1) 2 (bcells hh) = w10 at RD10 A10 K10 RG10 ⊢
        have HDS : Hid ((Pp.cells ⟨L, PL, hh⟩).toArray.size = 34) := Lib.hid (by rw [List.size_toArray]; simp [Pp.cells, bcells_length, HHL.out])
        have HDA := Lib.hid (Pp.cells_all ⟨L, PL, hh⟩)
        have HLD := Lib.hid (run_loadVar_mid w10 (wa + 1) 0 54 (Pp.cells ⟨L, PL, hh⟩) _ RG10.out Tryd.underlying54 rfl (by have := seedInfoA HDS.out; simpa using this))
        obtain ⟨D, hD⟩ : ∃ D, D = (Pp.cells ⟨L, PL, hh⟩).toArray := ⟨_, rfl⟩
        rw [← hD] at HDS HDA HLD
        have HD := Lib.hid hD
        clear hD
        go_upto_region 11 with fail
        refine wp_region_lit ?_
        refine @wpList_load_known _ _ _ _ _ _ _ ?hw6023 54 (.tmp 7) rfl (wa + 1) (0) rfl (.agg D) (HLD.out) ?_
        case hw6023 => kernel_rfl
        simp only [Act.put, List.setIfInBounds_toArray, List.set_cons_zero, List.set_cons_succ]
        refine wpList_store_row rfl 54 _ _ rfl (wa) D rfl rfl 54 zeros34 (A10.out) (seedInfoA HDS.out) (by rw [zeros34_size, HDS.out]) (HDA.out) ?_
        simp only [Act.put]
        refine wpList_nil ?_
        obtain ⟨t1, t2, t3⟩ : Kept w.heap.size b w (w10.setRow wa D) ∧ (w10.setRow wa D).heap[wa]? = some (.cells D 54 (0, 0)) ∧ Rd (w10.setRow wa D) top b r.l r.e := by
          refine ⟨K10.out.trans ⟨rfl, rfl, rfl, by simp [World.setRow], fun k hk _ => setRow_other w10 wa k D (by rw [HWA.out]; omega)⟩, setRow_heap w10 wa zeros34 D _ _ A10.out, ?_⟩
          rw [RC.out HA.out (by have h1 := HBB.out; have h2 := HCC.out; rw [← HPW.out, ← HST.out]; rintro (h3 | h3); exact h1 h3; exact h2 h3)]
          exact RD10.out.same (by simp [World.setRow]) (fun k hk => setRow_other w10 wa k D (by have := HTOP.out; omega))
        generalize w10.setRow wa D = wz at t1 t2 t3 ⊢
        have T1 := Lib.hid t1
        have T2z := Lib.hid t2
        have T3 := Lib.hid t3
        clear t1 t2 t3
        go_wp2_with fail
        refine bodyPost_ret (results_cell_row rfl _ _ wa 54 D (0, 0) _ rfl T2z.out Tryd.underlying54 rfl (seedInfoA (by exact HDS.out))) rfl ?_
        exact ⟨by rw [RC.out HA.out (by have h1 := HBB.out; have h2 := HCC.out; rw [← HPW.out, ← HST.out]; rintro (h3 | h3); exact h1 h3; exact h2 h3), HD.out], T3.out, T1.out⟩

end Go.Proofs.YtdnnccnicaoniaaDoor

namespace Go.Proofs.YtdnnccnicaoniaaDoor
open Go.RowKit Go.Lib

theorem wp_build_run {P : Program} {o : Oper} {a : Act} {w w' : World} {K : Act → World → Prop} {Q : Exit → Act → World → Prop} (x : Operand) (t : TypeId) (ho : o.op = .buildSlice t 1 #[(0, x)]) (v : Value) {u : Value} (hx : a.eval x = v) (hr : (Instr.buildSlice t 1 #[(0, v)]).run P w = .ok u w') (hk : K (a.put o.dst u) w') : o.wp P a w K Q := by
  unfold Oper.wp execOp
  simp only [ho, List.map_toArray, List.map_cons, List.map_nil, hx, Sem.run_bind, hr, Result.andThen_ok, Sem.run_pure]
  exact hk
theorem rerr_calls (b : Nat) (x : Int) (w : World) (h : w.cell? ⟨b, 1, none⟩ = some (.int .i64 x)) : Calls Tryd.prog 31 #[.pointer (some ⟨b, 0, none⟩)] w fun e w' => e = .returned (.int .i64 x) ∧ w' = w := by
  go_enter Tryd.func31, Tryd.ntmps31
  go_wp2
  go_ret
  exact ⟨rfl, rfl⟩
theorem Rd.err {w : World} {top b : Nat} {l : List UInt8} {e : Int} (h : Rd w top b l e) : w.cell? ⟨b, 1, none⟩ = some (.int .i64 e) := by
  obtain ⟨ao, c, h1, _⟩ := h.ex
  exact two_cell1 h1
/-- A row's own block turned: a reader stays. -/
theorem Rd.row {w : World} {top b rb : Nat} {l : List UInt8} {e : Int} {x : Int} {v : Value} {t : TypeId} (h : Rd w top b l e) (hr : w.heap[rb]? = some (.cells #[.int .i64 x, v] t (0, 0))) (hv : ∃ ad n c, v = .slice ad n c) (hne : b ≠ rb) (u : Value) : Rd (w.setCell ⟨rb, 1, none⟩ u) top b l e := by
  obtain ⟨ao, c, h1, h2, h3⟩ := h.ex
  refine ⟨h.lt, by simpa [World.setCell] using h.le, ⟨ao, c, (setCell_other w rb 1 u b hne).trans h1, h2, fun hc => ?_⟩, h.fail⟩
  obtain ⟨g, o, ha, hg, hgt, hcell⟩ := h3 hc
  by_cases hgr : g = rb
  · subst hgr
    refine ⟨g, o, ha, hg, hgt, fun j hj => ?_⟩
    have hx := hcell j hj
    obtain ⟨ad, n, c', rfl⟩ := hv
    simp only [World.cell?, hr] at hx
    exfalso
    match hq : o + j with
    | 0 => rw [hq] at hx; cases hx
    | 1 => rw [hq] at hx; cases hx
    | k + 2 =>
      rw [hq] at hx
      have h9 : (#[Value.int .i64 x, .slice ad n c'] : Array Value)[k + 2]? = none := Array.getElem?_eq_none (by simp)
      rw [h9] at hx
      cases hx
  · exact ⟨g, o, ha, hg, hgt, fun j hj => (World.cell?_of_block (w := w) (setCell_other w rb 1 u g hgr)).trans (hcell j hj)⟩

/-- Where reading stands: what was read, what is left. -/
def Pp.At (bits : Nat) (lb : List UInt8) (k free : Nat) (D : List Sd) (l : List UInt8) (e : Int) : Prop :=
  (e = 0 ∧ Pp.all bits lb = (D ++ (Pp.many bits k l free).1, (Pp.many bits k l free).2)) ∨ (e ≠ 0 ∧ (Pp.all bits lb).2.1 = e)
theorem Pp.At.next {bits : Nat} {lb : List UInt8} {k free : Nat} {D : List Sd} {l : List UInt8} (h : Pp.At bits lb (k + 1) free D l 0) : Pp.At bits lb k (Pp.stop bits (Pp.rd bits l free).s) (D ++ [(Pp.rd bits l free).s]) (Pp.rd bits l free).l (Pp.rd bits l free).e := by
  rcases h with ⟨_, h⟩ | ⟨h, _⟩
  · unfold Pp.many at h
    by_cases h1 : (Pp.rd bits l free).e = 0
    · rw [if_pos h1] at h
      exact .inl ⟨h1, by rw [h, List.append_assoc]; rfl⟩
    · rw [if_neg h1] at h
      exact .inr ⟨h1, by rw [h]⟩
  · exact absurd rfl h
theorem Pp.At.done {bits : Nat} {lb : List UInt8} {k free : Nat} {D : List Sd} {l : List UInt8} {e : Int} (h : Pp.At bits lb k free D l e) (hk : e = 0 → k = 0) : gEnd l e = Pp.allErr bits lb ∧ (e = 0 → D = (Pp.all bits lb).1) := by
  rcases h with ⟨rfl, h⟩ | ⟨h, h2⟩
  · obtain rfl := hk rfl
    unfold Pp.allErr
    rw [h]
    simp [Pp.many]
  · unfold Pp.allErr gEnd
    rw [if_neg h, h2, if_neg h]
    exact ⟨rfl, fun h0 => absurd h0 h⟩

/-- The memory of an Unpack. -/
structure Up (w0 w : World) (top b rb bits : Nat) (l : List UInt8) (e : Int) (v : Value) (D : List Sd) : Prop where
  rd : Rd w top b l e
  row : w.heap[rb]? = some (.cells #[.int .i64 (bits : Int), v] 57 (0, 0))
  own : OwnS w top v D
  kept : Kept w0.heap.size w0.heap.size w0 w
  tab : Tab w
  ne : rb ≠ b
  lt : rb < top
  low : w0.heap.size ≤ rb
  lowb : w0.heap.size ≤ b
  pos : 0 < w0.heap.size
theorem Up.le {w0 w : World} {top b rb bits : Nat} {l : List UInt8} {e : Int} {v : Value} {D : List Sd} (h : Up w0 w top b rb bits l e v D) : top ≤ w.heap.size := h.rd.le
theorem Up.step {w0 w w' : World} {top b rb bits : Nat} {l : List UInt8} {e : Int} {v : Value} {D : List Sd} (h : Up w0 w top b rb bits l e v D) (k : Kept w.heap.size w.heap.size w w') : Up w0 w' top b rb bits l e v D where
  rd := h.rd.kept k h.le h.le
  row := (k.block rb (lt_of_block h.row) (Nat.ne_of_lt (lt_of_block h.row))).trans h.row
  own := h.own.kept k (Nat.le_refl _)
  kept := h.kept.next1 k
  tab := h.tab.kept k h.tab.lt h.tab.lt
  ne := h.ne
  lt := h.lt
  low := h.low
  lowb := h.lowb
  pos := h.pos
/-- Behind a call of the reader. -/
theorem Up.read {w0 w w' : World} {top b rb bits : Nat} {l l' : List UInt8} {e e' : Int} {v : Value} {D : List Sd} (h : Up w0 w top b rb bits l e v D) (hr : Rd w' top b l' e') (k : Kept w.heap.size b w w') : Up w0 w' top b rb bits l' e' v D where
  rd := hr
  row := (k.block rb (lt_of_block h.row) h.ne).trans h.row
  own := h.own.stay (fun q hq => by
    have h1 := h.own.lt q hq
    exact k.block q h1.2 (by have := h.rd.lt; omega))
  kept := h.kept.row k h.lowb
  tab := h.tab.kept k h.tab.lt (by have := h.lowb; have := h.pos; omega)
  ne := h.ne
  lt := h.lt
  low := h.low
  lowb := h.lowb
  pos := h.pos

set_option maxRecDepth 100000 in
set_option maxHeartbeats 6400000 in
theorem unpack_calls (bits : Nat) (hb1 : 1 ≤ bits) (hb : bits ≤ 32) (s : ByteArray) (w : World) (ht : Tab w) :
    Calls Tryd.prog 15 #[.string s, .int .i64 (bits : Int)] w fun e w' => Kept w.heap.size w.heap.size w w' ∧
      ((Pp.allErr bits s.data.toList ≠ 0 ∧ e = .returned (.tuple #[.pointer none, .int .i64 (Pp.allErr bits s.data.toList)])) ∨
       (Pp.allErr bits s.data.toList = 0 ∧ ∃ rb, e = .returned (.tuple #[.pointer (some ⟨rb, 0, none⟩), .int .i64 0]) ∧ ∃ sl, RowIs w' rb bits sl (Pp.all bits s.data.toList).1)) := by
  have HB := Lib.hid hb
  have hb1i : (1 : Int) ≤ (bits : Int) := by omega
  have hbi : (bits : Int) ≤ 32 := by omega
  have HFIT := Lib.hid (fun w => fits_yes (bits : Int) hb1i hbi w)
  obtain ⟨lb, hlb⟩ : ∃ lb, lb = s.data.toList := ⟨_, rfl⟩
  have HFROM := Lib.hid (fun w => from_calls s w)
  rw [← hlb] at HFROM ⊢
  have HT := Lib.hid ht
  clear hlb ht hb hb1
  go_enter Tryd.func15, Tryd.ntmps15
  go_upto_region 3 with (go_at_call 19; refine (HFIT.out _).mono ?_; rintro e w1 ⟨rfl, hw1⟩; subst w1)
  go_upto_region 4 with fail
  have hk1 : Kept w.heap.size w.heap.size w (w.alloc (.cells #[.int .i64 (bits : Int), .slice none 0 0] 57)) := (Kept.refl _ _ _).alloc (Nat.le_refl _) _
  have hr1 := heap_new w (.cells #[.int .i64 (bits : Int), .slice none 0 0] 57)
  have hs1 : (w.alloc (.cells #[.int .i64 (bits : Int), .slice none 0 0] 57)).heap.size = w.heap.size + 1 := by simp
  have K1 := Lib.hid hk1
  have R1 := Lib.hid hr1
  have HS1 := Lib.hid hs1
  clear hk1 hr1 hs1
  generalize w.alloc (.cells #[.int .i64 (bits : Int), .slice none 0 0] 57) = w1 at K1 R1 HS1 ⊢
  go_upto_region 5 with (go_at_call 29; refine (HFROM.out _).mono ?_; rintro e w2 ⟨rfl, rd2, k2, hs2⟩)
  have hu2 : Up w w2 (w1.heap.size + 2) (w1.heap.size + 1) w.heap.size bits lb 0 (.slice none 0 0) [] := by
    have hsz := HS1.out
    have hpos := HT.out.lt
    exact ⟨rd2, (k2.block w.heap.size (by omega) (by omega)).trans R1.out, OwnS.nil _ _, K1.out.next1 k2, HT.out.kept (K1.out.next1 k2) hpos hpos, by omega, by omega, Nat.le_refl _, by omega, hpos⟩
  have U2 := Lib.hid hu2
  clear hu2 rd2 k2 hs2
  rw [show w1.heap.size + 1 = w.heap.size + 2 by rw [HS1.out]] at U2 ⊢
  obtain ⟨rb, hrb⟩ : ∃ rb, rb = w.heap.size := ⟨_, rfl⟩
  obtain ⟨top, htop⟩ : ∃ top, top = w1.heap.size + 2 := ⟨_, rfl⟩
  rw [← hrb, ← htop] at U2
  rw [← hrb]
  obtain ⟨b, hbb⟩ : ∃ b, b = rb + 2 := ⟨_, rfl⟩
  rw [← hbb] at U2 ⊢
  clear hrb htop hbb R1 HS1 K1
  go_upto_region 6 with fail
  refine wp_region_lit ?_
  refine @BigFrame.wpList_want _ _ _ _ _ _ _ ?hw7002 ?_
  case hw7002 => kernel_rfl
  intro K hK
  go_simp
  refine hK _ _ ?_
  clear hK K
  refine @BigFrame.wpList_want _ _ _ _ _ _ _ ?hw7001 ?_
  case hw7001 => kernel_rfl
  intro K hK
  go_simp
  go_at_call 30
  refine ((num_all top b lb 0 65536 w2 U2.out.rd U2.out.tab (by have := U2.out.lowb; have := U2.out.pos; omega))).mono ?_
  rintro e w3 ⟨rfl, rd3, k3⟩
  have U3 := Lib.hid (U2.out.read rd3 k3)
  clear rd3 k3
  refine hK _ _ ?_
  clear hK K
  refine @BigFrame.wpList_want _ _ _ _ _ _ _ ?hw7003 ?_
  case hw7003 => kernel_rfl
  intro K hK
  go_simp
  refine hK _ _ ?_
  clear hK K
  have hcn : ((Pp.cntOf lb : Nat) : Int) = (gNum lb 0 65536).val := Int.toNat_of_nonneg (Pp.gNum_val lb 0 65536).1
  rw [← hcn]
  have HAT : Hid (Pp.At bits lb (Pp.cntOf lb) 0 [] (gNum lb 0 65536).left (gNum lb 0 65536).err) := Lib.hid (by
    unfold Pp.At Pp.all
    by_cases h : (gNum lb 0 65536).err = 0
    · exact .inl ⟨h, by rw [if_pos h]; rfl⟩
    · exact .inr ⟨h, by rw [if_neg h]⟩)
  have HCN : Hid (Pp.cntOf lb ≤ 65536) := Lib.hid (by
    by_cases h : (gNum lb 0 65536).err = 0
    · have e1 : gNum lb 0 65536 = Wm.rNum lb 65536 := by rw [gNum, if_pos rfl]
      have := Wm.rNum_le lb 65536 (by rw [← e1]; exact h)
      rw [← e1] at this
      unfold Pp.cntOf
      omega
    · have := (Pp.gNum_fail lb 0 65536 h).1
      unfold Pp.cntOf
      rw [this]
      decide)
  generalize (gNum lb 0 65536).left = l0 at U3 HAT
  generalize (gNum lb 0 65536).err = e0 at U3 HAT
  generalize Pp.cntOf lb = n0 at HAT HCN ⊢
  clear hcn
  go_wp2_with fail
  go_loopw [8, 9] (fun s8 s9 wx => ∃ k : Nat, s9 = .int .i64 (k : Int) ∧ ∃ free : Nat, s8 = .int .i64 (free : Int) ∧ ∃ (D : List Sd) (l : List UInt8) (e : Int) (v : Value), Hid (Pp.At bits lb k free D l e) ∧ Hid (D.length + k ≤ 65536) ∧ Hid (Up w wx top b rb bits l e v D)) (fun _ s9 _ => (RowKit.intOf s9).toNat)
  case atStart => exact ⟨n0, rfl, 0, rfl, [], l0, e0, _, HAT, Lib.hid (by simpa using HCN.out), U3⟩
  case round =>
    obtain ⟨k, rfl, free, rfl, D, l, e, v, HA, HD, HU⟩ := hrel
    have HRE := Lib.hid (rerr_calls b e wr HU.out.rd.err)
    have HEN := Lib.hid (fun (hk : e = 0 → k = 0) => HA.out.done hk)
    have HE2 := Lib.hid (end_all top b l e wr HU.out.rd)
    by_cases hk : k = 0
    · have hk0 : ¬ (0 : Int) < (k : Int) := by omega
      have HK := Lib.hid hk
      clear hk
      obtain ⟨h1, h2⟩ := HEN.out (fun _ => HK.out)
      have HX := Lib.hid h1
      have HX2 := Lib.hid h2
      clear h1 h2
      go_upto_region 12 with fail
      refine wp_region_lit ?_
      refine @BigFrame.wpList_want _ _ _ _ _ _ _ ?hw7005 ?_
      case hw7005 => kernel_rfl
      intro K hK
      go_simp
      refine hK _ _ ?_
      clear hK K
      refine @BigFrame.wpList_want _ _ _ _ _ _ _ ?hw7004 ?_
      case hw7004 => kernel_rfl
      intro K hK
      go_simp
      go_at_call 34
      refine (HE2.out).mono ?_
      rintro e2 w9 ⟨rfl, hw9⟩
      subst hw9
      rw [HX.out]
      refine hK _ _ ?_
      clear hK K
      refine @BigFrame.wpList_want _ _ _ _ _ _ _ ?hw7006 ?_
      case hw7006 => kernel_rfl
      intro K hK
      go_simp
      refine hK _ _ ?_
      clear hK K
      obtain ⟨ae, hae⟩ : ∃ ae, ae = Pp.allErr bits lb := ⟨_, rfl⟩
      rw [← hae]
      have HAE := Lib.hid hae
      by_cases hz : ae = 0
      · subst hz
        have HZ0 := Lib.hid (show e = 0 from by
          have h := HX.out
          rw [← HAE.out] at h
          unfold gEnd at h
          split at h
          · assumption
          · exact h)
        clear hae
        go_wp2
        refine bodyPost_ret (results_tmp2 rfl _ _ _) rfl ?_
        have hfin : RowIs wr rb bits v (Pp.all bits lb).1 := ⟨HU.out.row, by rw [← HX2.out HZ0.out]; exact HU.out.own.ss⟩
        exact ⟨HU.out.kept, .inr ⟨HAE.out.symm, rb, rfl, v, hfin⟩⟩
      · have hzi : (ae == 0) = false := by rw [beq_eq_false_iff_ne]; exact hz
        have HZ := Lib.hid hz
        clear hz hae
        go_wp2
        refine bodyPost_ret (results_tmp2 rfl _ _ _) rfl ?_
        exact ⟨HU.out.kept, .inl ⟨by rw [← HAE.out]; exact HZ.out, by rw [← HAE.out]; rfl⟩⟩
    · have hk0 : (0 : Int) < (k : Int) := by omega
      have hkn : 0 < k := by omega
      have HK := Lib.hid hk
      clear hk
      by_cases he : e = 0
      · subst he
        obtain ⟨j, hj⟩ : ∃ j, k = j + 1 := ⟨k - 1, by have := HK.out; omega⟩
        have HJ := Lib.hid hj
        have HA2 := Lib.hid (show Pp.At bits lb j (Pp.stop bits (Pp.rd bits l free).s) (D ++ [(Pp.rd bits l free).s]) (Pp.rd bits l free).l (Pp.rd bits l free).e from Pp.At.next (by have := HA.out; rw [hj] at this; exact this))
        have hki : (k : Int) ≤ 65536 := by have := HD.out; omega
        clear hj
        go_upto_region 7 with fail
        refine wp_region_lit ?_
        refine @BigFrame.wpList_want _ _ _ _ _ _ _ ?hw7008 ?_
        case hw7008 => kernel_rfl
        intro K hK
        go_simp
        refine hK _ _ ?_
        clear hK K
        refine @BigFrame.wpList_want _ _ _ _ _ _ _ ?hw7009 ?_
        case hw7009 => kernel_rfl
        intro K hK
        go_simp
        refine hK _ _ ?_
        clear hK K
        refine @BigFrame.wpList_want _ _ _ _ _ _ _ ?hw7010 ?_
        case hw7010 => kernel_rfl
        intro K hK
        go_simp
        refine hK _ _ ?_
        clear hK K
        refine @BigFrame.wpList_want _ _ _ _ _ _ _ ?hw7011 ?_
        case hw7011 => kernel_rfl
        intro K hK
        go_simp
        refine hK _ _ ?_
        clear hK K
        refine @BigFrame.wpList_want _ _ _ _ _ _ _ ?hw7007 ?_
        case hw7007 => kernel_rfl
        intro K hK
        go_simp
        go_at_call 31
        refine (HRE.out).mono ?_
        rintro e2 w9 ⟨rfl, hw9⟩
        subst w9
        refine hK _ _ ?_
        clear hK K
        refine @BigFrame.wpList_want _ _ _ _ _ _ _ ?hw7012 ?_
        case hw7012 => kernel_rfl
        intro K hK
        go_simp
        refine hK _ _ ?_
        clear hK K
        refine @BigFrame.wpList_want _ _ _ _ _ _ _ ?hw7013 ?_
        case hw7013 => kernel_rfl
        intro K hK
        go_simp
        refine hK _ _ ?_
        clear hK K
        go_upto_region 9 with fail
        have HRD := Lib.hid (read_calls bits HB.out l free rb top b v wr HU.out.rd HU.out.row HU.out.ne (by have := HU.out.lowb; have := HU.out.pos; omega) HU.out.tab)
        have HIN := Lib.hid (Pp.rd_in bits l free)
        generalize Pp.rd bits l free = r at HRD HIN HA2
        obtain ⟨sd, rl, hsd⟩ : ∃ sd rl, sd = r.s ∧ rl = r.l := ⟨_, _, rfl, rfl⟩
        rw [← hsd.1] at HRD HIN HA2
        have HSZ : Hid ((Pp.cells sd).toArray.size = 34) := Lib.hid (by rw [List.size_toArray, Pp.cells_length HIN.out])
        have HSA := Lib.hid (Pp.cells_all sd)
        have hend := fun v h => end_calls bits HB.out sd HIN.out rb v h
        have HSC := Lib.hid (show ∃ q, q = (Pp.cells sd).toArray from ⟨_, rfl⟩)
        obtain ⟨SC, hSC⟩ : ∃ q, q = (Pp.cells sd).toArray := ⟨_, rfl⟩
        rw [← hSC] at HRD HSZ HSA
        simp only [← hSC] at hend
        have HEND := Lib.hid hend
        have HSCE := Lib.hid hSC
        clear hend hSC hsd HSC
        refine wp_region_lit ?_
        refine @BigFrame.wpList_want _ _ _ _ _ _ _ ?hw7018 ?_
        case hw7018 => kernel_rfl
        intro K hK
        go_simp
        refine hK _ _ ?_
        clear hK K
        refine @BigFrame.wpList_want _ _ _ _ _ _ _ ?hw7019 ?_
        case hw7019 => kernel_rfl
        intro K hK
        go_simp
        refine hK _ _ ?_
        clear hK K
        refine @BigFrame.wpList_want _ _ _ _ _ _ _ ?hw7020 ?_
        case hw7020 => kernel_rfl
        intro K hK
        go_simp
        refine hK _ _ ?_
        clear hK K
        refine @BigFrame.wpList_want _ _ _ _ _ _ _ ?hw7017 ?_
        case hw7017 => kernel_rfl
        intro K hK
        go_simp
        go_at_call 32
        refine (HRD.out).mono ?_
        rintro e2 w4 ⟨rfl, rd4, k4⟩
        have U4 := Lib.hid (HU.out.read rd4 k4)
        clear rd4 k4
        refine hK _ _ ?_
        clear hK K
        refine @wpL_alloc _ _ _ _ _ _ _ _ ?hw7021 54 rfl _ (alloc_seed _) ?_
        case hw7021 => kernel_rfl
        simp only [Act.put, List.setIfInBounds_toArray, List.set_cons_zero, List.set_cons_succ]
        refine wpList_store_row rfl 54 _ _ rfl (w4.heap.size) SC rfl rfl 54 zeros34 (heap_new _ _) (seedInfoA HSZ.out) (by rw [zeros34_size, HSZ.out]) (HSA.out) ?_
        simp only [Act.put]
        rw [World.setRow_alloc_new]
        have kk5 : Kept w4.heap.size w4.heap.size w4 (w4.alloc (.cells SC 54)) := (Kept.refl _ _ _).alloc (Nat.le_refl _) _
        have U5 := Lib.hid (U4.out.step kk5)
        have Q5 := Lib.hid (heap_new w4 (.cells SC 54))
        have HTS := Lib.hid (show w4.heap.size ≤ w4.heap.size from Nat.le_refl _)
        have HVL := Lib.hid (show ∀ q, v.ownBlock = some q → q < w4.heap.size from fun q hq => (U4.out.own.lt q hq).2)
        have HTL := Lib.hid U4.out.le
        clear kk5
        generalize w4.alloc (.cells SC 54) = w5 at U5 Q5 ⊢
        obtain ⟨sb, hsb⟩ : ∃ sb, sb = w4.heap.size := ⟨_, rfl⟩
        rw [← hsb] at Q5 HVL HTL ⊢
        clear hsb HTS
        go_upto_region 10 with fail
        refine wp_region_lit ?_
        refine @BigFrame.wpList_want _ _ _ _ _ _ _ ?hw7023 ?_
        case hw7023 => kernel_rfl
        intro K hK
        go_simp
        refine hK _ _ ?_
        clear hK K
        refine @wpList_load_known _ _ _ _ _ _ _ ?hw7024 54 (.tmp 10) rfl (sb) (0) rfl (.agg SC) (run_loadVar_row w5 sb 54 54 SC (0, 0) _ Q5.out Tryd.underlying54 rfl (seedInfoA HSZ.out)) ?_
        case hw7024 => kernel_rfl
        simp only [Act.put, List.setIfInBounds_toArray, List.set_cons_zero, List.set_cons_succ]
        refine @BigFrame.wpList_want _ _ _ _ _ _ _ ?hw7022 ?_
        case hw7022 => kernel_rfl
        intro K hK
        go_simp
        go_at_call 33
        refine (HEND.out _ w5 U5.out.row).mono ?_
        rintro e2 w6 ⟨rfl, k6⟩
        have U6 := Lib.hid (U5.out.step k6)
        have Q6 := Lib.hid ((k6.block sb (lt_of_block Q5.out) (Nat.ne_of_lt (lt_of_block Q5.out))).trans Q5.out)
        clear k6
        refine hK _ _ ?_
        clear hK K
        refine @BigFrame.wpList_want _ _ _ _ _ _ _ ?hw7025 ?_
        case hw7025 => kernel_rfl
        intro K hK
        go_simp
        refine hK _ _ ?_
        clear hK K
        go_upto_region 11 with fail
        obtain ⟨vad, vn, vc, hvs⟩ : ∃ vad vn vc, v = .slice vad vn vc := by
          obtain ⟨a, g, o, c, hv, _⟩ := U6.out.own.ss
          exact ⟨_, _, _, hv⟩
        subst hvs
        obtain ⟨zi, zz, hzi, hzz, hzs, hz34, hzb⟩ := seed_full
        have HBO := Lib.hid (fun w => run_build_one (P := Tryd.prog) w 55 54 zi zz Tryd.underlying55 hzi hzz SC (by rw [HSZ.out, hz34]) (by rw [hz34]; decide) (by rw [hz34]; decide))
        clear hzi hzz hzs hz34 hzb
        obtain ⟨wd, hwd⟩ : ∃ wd, wd = w6.drew := ⟨_, rfl⟩
        have UD : Hid (Up w wd top b rb bits r.l r.e (.slice vad vn vc) D) := Lib.hid (by rw [hwd]; exact U6.out.step (Kept.refl _ _ _).drew)
        have QD : Hid (wd.heap[sb]? = some (.cells SC 54 (0, 0))) := Lib.hid (by rw [hwd]; exact Q6.out)
        have HS0 : Hid (wd.heap[rb]? = some (.cells #[.int .i64 (bits : Int), .slice vad vn vc] 57 (0, 0)) ∧ wd.heap[sb]? = some (.cells SC 54 (0, 0))) := Lib.hid ⟨UD.out.row, QD.out⟩
        refine wp_region_heldTo 10 (S := fun w' => w'.heap[rb]? = some (.cells #[.int .i64 (bits : Int), .slice vad vn vc] 57 (0, 0)) ∧ w'.heap[sb]? = some (.cells SC 54 (0, 0))) (by kernel_rfl) (by rw [← hwd]; exact HS0.out) (fun hH => ?_)
        rw [← hwd] at hH ⊢
        clear hwd
        refine heldTo_take (i := 0) 38 (.pointer (some ⟨rb, 0, none⟩)) rfl rfl (by kernel_rfl) (by kernel_rfl) (by kernel_rfl) (by kernel_rfl) (fun _ _ _ h => h) (.inl ⟨by kernel_rfl, fun w9 _ => by go_simp⟩) hH ?_
        simp only [List.setIfInBounds_toArray, List.set_cons_zero, List.set_cons_succ]
        refine heldTo_take (i := 1) 39 (.pointer (some ⟨rb, 0, none⟩)) rfl rfl (by kernel_rfl) (by kernel_rfl) (by kernel_rfl) (by kernel_rfl) (fun _ _ _ h => h) (.inl ⟨by kernel_rfl, fun w9 _ => by go_simp⟩) hH ?_
        simp only [List.setIfInBounds_toArray, List.set_cons_zero, List.set_cons_succ]
        refine heldTo_take (i := 2) 40 (.pointer (some ⟨rb, 0, none⟩)) rfl rfl (by kernel_rfl) (by kernel_rfl) (by kernel_rfl) (by kernel_rfl) (fun _ _ _ h => h) (.inl ⟨by kernel_rfl, fun w9 _ => by go_simp⟩) hH ?_
        simp only [List.setIfInBounds_toArray, List.set_cons_zero, List.set_cons_succ]
        refine heldTo_take (i := 3) 41 (.pointer (some ⟨rb, 1, none⟩)) rfl rfl (by kernel_rfl) (by kernel_rfl) (by kernel_rfl) (by kernel_rfl) (fun _ _ _ h => h) (.inl ⟨by kernel_rfl, fun w9 _ => by go_simp⟩) hH ?_
        simp only [List.setIfInBounds_toArray, List.set_cons_zero, List.set_cons_succ]
        refine heldTo_take (i := 4) 42 (.slice vad vn vc) rfl rfl (by kernel_rfl) (by kernel_rfl) (by kernel_rfl) (by kernel_rfl) (fun _ _ _ h => h) (.inl ⟨by kernel_rfl, fun w9 h9 => by have c9 := two_cell1 h9.1; clear h9; go_simp⟩) hH ?_
        simp only [List.setIfInBounds_toArray, List.set_cons_zero, List.set_cons_succ]
        refine heldTo_take (i := 5) 43 (.agg SC) rfl rfl (by kernel_rfl) (by kernel_rfl) (by kernel_rfl) (by kernel_rfl) (fun _ _ _ h => h) (yieldsIf_load_known (by kernel_rfl) 54 _ rfl (sb) (0) rfl (.agg SC) (fun w' hw' => run_loadVar_row w' sb 54 54 SC (0, 0) _ hw'.2 Tryd.underlying54 rfl (seedInfoA HSZ.out))) hH ?_
        simp only [List.setIfInBounds_toArray, List.set_cons_zero, List.set_cons_succ]
        have kb : Kept wd.heap.size wd.heap.size wd (wd.alloc (.cells SC 54)) := (Kept.refl _ _ _).alloc (Nat.le_refl _) _
        have ub := UD.out.step kb
        have hb7 := heap_new wd (.cells SC 54)
        have hqb := (kb.block sb (lt_of_block QD.out) (Nat.ne_of_lt (lt_of_block QD.out))).trans QD.out
        have hcr : (wd.alloc (.cells SC 54)).rangeAt wd.heap.size 0 (Pp.cells sd) := fun q u hu => by
          rw [cell_of_row _ _ _ _ _ _ hb7, HSCE.out, Nat.zero_add]
          simpa using hu
        obtain ⟨v', w8, happ, ho8, hg8, hn8⟩ := append_seed_at (wd.alloc (.cells SC 54)) top (.slice vad vn vc) D ub.own ub.le wd.heap.size 1 sd HIN.out.2.2 hcr (by have := HD.out; omega)
        obtain ⟨va', vn', vc', hv'⟩ : ∃ a n c, v' = .slice a n c := by
          obtain ⟨a, g, o, c, h, _⟩ := ho8.ss
          exact ⟨_, _, _, h⟩
        subst hv'
        have hne : ∀ q, q < top → some q ≠ (Value.slice vad vn vc).ownBlock := fun q hq e => by have := (ub.own.lt q e.symm).1; omega
        have hrow8 := (hg8.block rb (lt_of_block ub.row) (hne rb ub.lt)).trans ub.row
        have hsb8 := (hg8.block sb (lt_of_block hqb) (fun e => by have := HVL.out sb e.symm; omega)).trans hqb
        have hrd8 : Rd w8 top b r.l r.e := ub.rd.same hg8.size (fun q hq => hg8.block q (Nat.lt_of_lt_of_le hq ub.le) (hne q hq))
        have hu9 : Up w (w8.setCell ⟨rb, 1, none⟩ (.slice va' vn' vc')) top b rb bits r.l r.e (.slice va' vn' vc') (D ++ [sd]) := by
          refine ⟨hrd8.row hrow8 ⟨_, _, _, rfl⟩ (Ne.symm ub.ne) (.slice va' vn' vc'), ?_, ho8.stay (fun q hq => setCell_other _ _ _ _ _ (by have := (ho8.lt q hq).1; have := ub.lt; omega)), ?_, ?_, ub.ne, ub.lt, ub.low, ub.lowb, ub.pos⟩
          · exact two_set1 hrow8
          · refine ub.kept.trans (Kept.set ⟨hg8.os, hg8.tape, hg8.output, hg8.size, fun q hq _ => hg8.block q (Nat.lt_of_lt_of_le hq ub.kept.size) (hne q (by have := ub.low; have := ub.lt; omega))⟩ (.inr ub.low) 1 (.slice va' vn' vc'))
          · exact (ub.tab.same (hg8.block 0 ub.tab.lt (hne 0 (by have := ub.lt; omega)))).same (setCell_other _ _ _ _ _ (by have := ub.low; have := ub.pos; omega))
        have HU9 := Lib.hid hu9
        have HAPP := Lib.hid happ
        have HS8 := Lib.hid (show w8.heap[rb]? = _ ∧ w8.heap[sb]? = _ from ⟨hrow8, hsb8⟩)
        have HSB := Lib.hid (show (wd.alloc (.cells SC 54)).heap[rb]? = _ ∧ (wd.alloc (.cells SC 54)).heap[sb]? = _ from ⟨ub.row, hqb⟩)
        have c81 := two_cell1 hrow8
        have f81 := two_free hrow8 1
        clear kb ub hb7 hqb hcr happ ho8 hg8 hn8 hne hrow8 hsb8 hrd8 hu9
        refine heldTo_one (i := 6) (by kernel_rfl) rfl (fun K hK => ?_)
        rw [if_pos (by rfl)]
        refine wp_build_run _ 55 rfl (.agg SC) rfl (HBO.out wd) ?_
        simp only [Act.put, List.setIfInBounds_toArray]
        refine hK.out _ _ HSB.out (fun hH => ?_)
        clear hK K
        refine heldTo_one (i := 7) (by kernel_rfl) rfl (fun K hK => ?_)
        rw [if_pos (by rfl)]
        refine wp_append_run' _ _ 55 55 55 rfl rfl (.slice vad vn vc) (.slice (some ⟨wd.heap.size, 0, none⟩) 1 1) rfl rfl HAPP.out ?_
        simp only [Act.put]
        refine hK.out _ _ HS8.out (fun hH => ?_)
        clear hK K
        refine heldTo_one (i := 8) (by kernel_rfl) rfl (fun K hK => ?_)
        rw [if_pos (by rfl)]
        go_simp
        refine hK.out _ _ HS8.out (fun hH => ?_)
        clear hK K
        refine heldTo_one (i := 9) (by kernel_rfl) rfl (fun K hK => ?_)
        rw [if_pos (by rfl)]
        go_simp
        refine hK.out _ _ HS8.out (fun hH => ?_)
        clear hK K
        refine heldTo_last (by kernel_rfl) rfl (fun K hK => ?_)
        rw [if_pos (by rfl)]
        go_simp
        refine hK.out _ _ (heldTo_done (by kernel_rfl) ?_ _)
        clear hK K c81 f81
        generalize w8.setCell ⟨rb, 1, none⟩ (.slice va' vn' vc') = w9 at HU9 ⊢
        have hkj : (k : Int) - 1 = (j : Int) := by have := HJ.out; omega
        go_wp2
        go_roundw
        case rel => exact ⟨j, rfl, _, rfl, D ++ [sd], r.l, r.e, .slice va' vn' vc', HA2, Lib.hid (by have := HD.out; have := HJ.out; simp; omega), HU9⟩
        case measure => have := HJ.out; simp [RowKit.intOf]; omega
      · have hei : (e == 0) = false := by rw [beq_eq_false_iff_ne]; exact he
        have HNZ := Lib.hid he
        clear he
        obtain ⟨h1, h2⟩ := HEN.out (fun h => absurd h HNZ.out)
        have HX := Lib.hid h1
        have HX2 := Lib.hid h2
        clear h1 h2
        go_upto_region 7 with fail
        refine wp_region_lit ?_
        refine @BigFrame.wpList_want _ _ _ _ _ _ _ ?hw7008 ?_
        case hw7008 => kernel_rfl
        intro K hK
        go_simp
        refine hK _ _ ?_
        clear hK K
        refine @BigFrame.wpList_want _ _ _ _ _ _ _ ?hw7009 ?_
        case hw7009 => kernel_rfl
        intro K hK
        go_simp
        refine hK _ _ ?_
        clear hK K
        refine @BigFrame.wpList_want _ _ _ _ _ _ _ ?hw7010 ?_
        case hw7010 => kernel_rfl
        intro K hK
        go_simp
        refine hK _ _ ?_
        clear hK K
        refine @BigFrame.wpList_want _ _ _ _ _ _ _ ?hw7011 ?_
        case hw7011 => kernel_rfl
        intro K hK
        go_simp
        refine hK _ _ ?_
        clear hK K
        refine @BigFrame.wpList_want _ _ _ _ _ _ _ ?hw7007 ?_
        case hw7007 => kernel_rfl
        intro K hK
        go_simp
        go_at_call 31
        refine (HRE.out).mono ?_
        rintro e2 w9 ⟨rfl, hw9⟩
        subst w9
        refine hK _ _ ?_
        clear hK K
        refine @BigFrame.wpList_want _ _ _ _ _ _ _ ?hw7012 ?_
        case hw7012 => kernel_rfl
        intro K hK
        go_simp
        refine hK _ _ ?_
        clear hK K
        refine @BigFrame.wpList_want _ _ _ _ _ _ _ ?hw7013 ?_
        case hw7013 => kernel_rfl
        intro K hK
        go_simp
        refine hK _ _ ?_
        clear hK K
        clear hei
        go_upto_region 12 with fail
        refine wp_region_lit ?_
        refine @BigFrame.wpList_want _ _ _ _ _ _ _ ?hw7015 ?_
        case hw7015 => kernel_rfl
        intro K hK
        go_simp
        refine hK _ _ ?_
        clear hK K
        refine @BigFrame.wpList_want _ _ _ _ _ _ _ ?hw7014 ?_
        case hw7014 => kernel_rfl
        intro K hK
        go_simp
        go_at_call 34
        refine (HE2.out).mono ?_
        rintro e2 w9 ⟨rfl, hw9⟩
        subst hw9
        rw [HX.out]
        refine hK _ _ ?_
        clear hK K
        refine @BigFrame.wpList_want _ _ _ _ _ _ _ ?hw7016 ?_
        case hw7016 => kernel_rfl
        intro K hK
        go_simp
        refine hK _ _ ?_
        clear hK K
        obtain ⟨ae, hae⟩ : ∃ ae, ae = Pp.allErr bits lb := ⟨_, rfl⟩
        rw [← hae]
        have HAE := Lib.hid hae
        by_cases hz : ae = 0
        · subst hz
          have HZ0 := Lib.hid (show e = 0 from by
            have h := HX.out
            rw [← HAE.out] at h
            unfold gEnd at h
            split at h
            · assumption
            · exact h)
          clear hae
          go_wp2
          refine bodyPost_ret (results_tmp2 rfl _ _ _) rfl ?_
          have hfin : RowIs wr rb bits v (Pp.all bits lb).1 := ⟨HU.out.row, by rw [← HX2.out HZ0.out]; exact HU.out.own.ss⟩
          exact ⟨HU.out.kept, .inr ⟨HAE.out.symm, rb, rfl, v, hfin⟩⟩
        · have hzi : (ae == 0) = false := by rw [beq_eq_false_iff_ne]; exact hz
          have HZ := Lib.hid hz
          clear hz hae
          go_wp2
          refine bodyPost_ret (results_tmp2 rfl _ _ _) rfl ?_
          exact ⟨HU.out.kept, .inl ⟨by rw [← HAE.out]; exact HZ.out, by rw [← HAE.out]; rfl⟩⟩

end Go.Proofs.YtdnnccnicaoniaaDoor
