/-
  KeyMath; Keep; KeySmall: several texts in one.
-/
import Derived.Test.YtohichignjjleaaGL
import Derived.Test.YtohichignjjleaaGV
import Derived.Test.YtohichignjjleaaHeldEx
import Derived.Test.YtohichignjjleaaGA
import Derived.Lib.Hide
import Derived.Deep.MidRow
import Derived.Deep.RegionWith
import Derived.Deep.Cut

namespace Go.Proofs.Ytohichignjjleaa

namespace Ky
def wSaid : List UInt8 := [115, 97, 105, 100]
def wSpot : List UInt8 := [115, 112, 111, 116]
def wTag : List UInt8 := [116, 97, 103]
def wApp : List UInt8 := [97, 112, 112]
def wWelcome : List UInt8 := [119, 101, 108, 99, 111, 109, 101]
def wEpoch : List UInt8 := [101, 112, 111, 99, 104]
def wInit : List UInt8 := [105, 110, 105, 116]
def wConfirm : List UInt8 := [99, 111, 110, 102, 105, 114, 109]
def wApps : List UInt8 := [97, 112, 112, 115]
def wExport : List UInt8 := [101, 120, 112, 111, 114, 116]
def z32 : List UInt8 := List.replicate 32 0
def said (b c : List UInt8) : List UInt8 := Sm.sum (wSaid ++ b ++ c)
def tag (k s : List UInt8) : List UInt8 := Mc.code k (wTag ++ s)
def spot (c : List UInt8) : Nat := Wm.valOf 0 ((Sm.sum (wSpot ++ c)).take 4)
def ctx (p : List UInt8) (n : Nat) (t s : List UInt8) : List UInt8 := p ++ Wm.enc n ++ t ++ s
def app (k : List UInt8) (n : Nat) : List UInt8 := Mc.derive k wApp (Wm.enc n)
theorem tag_length (k s : List UInt8) : (tag k s).length = 32 := Mc.code_length _ _
/-- What is derived step by step: of which secret, the label, the context. -/
def key (j c : List UInt8) : Nat → List UInt8
  | 0 => j
  | 1 => Mc.derive j wWelcome []
  | 2 => Mc.derive j wEpoch c
  | 3 => Mc.derive (Mc.derive j wEpoch c) wInit []
  | 4 => Mc.derive (Mc.derive j wEpoch c) wConfirm []
  | 5 => Mc.derive (Mc.derive j wEpoch c) wApps []
  | _ => Mc.derive (Mc.derive j wEpoch c) wExport []
end Ky
end Go.Proofs.Ytohichignjjleaa

namespace Go.Proofs.Ytohichignjjleaa
open Go.RowKit

theorem row_kept {w x : World} {b : Nat} {o : Obj} (h : w.heap[b]? = some o) (k : Kept w.heap.size w.heap.size w x) : x.heap[b]? = some o := (k.block b (lt_of_block h) (Nat.ne_of_lt (lt_of_block h))).trans h
theorem Kept.onto {w w1 w2 : World} (k : Kept w.heap.size w.heap.size w w1) (k2 : Kept w1.heap.size w1.heap.size w1 w2) : Kept w.heap.size w.heap.size w w2 := k.trans (k2.mono k.size (fun _ hi _ => Nat.ne_of_lt (Nat.lt_of_lt_of_le hi k.size)))
theorem kept_setRow10 {w w1 : World} {c : Nat} (k : Kept w.heap.size c w w1) (rb : Nat) (h : w.heap.size ≤ rb) (cs : Array Value) : Kept w.heap.size c w (w1.setRow rb cs) :=
  k.trans ⟨rfl, rfl, rfl, by simp [World.setRow], fun i hi _ => setRow_other w1 rb i cs (by omega)⟩
section
variable {P : Program} {ops : Array Oper} {a : Act} {S : World → Prop} {rest : List Oper} {o : Oper} {w : World} {Q : Exit → Act → World → Prop}
theorem wp_store_row_none11 {a : Act} {K : Act → World → Prop} (ty : TypeId) (x y : Operand) (ho : o.op = .store ty x y) (hd : o.dst = none) (g : Nat) (cells : Array Value) (hx : a.eval x = .pointer (some ⟨g, 0, none⟩)) (hy : a.eval y = .agg cells)
    (t : TypeId) (old : Array Value) (hg : w.heap[g]? = some (.cells old t (0, 0))) (hi : (P.info? ty).map (·.size) = some cells.size) (hold : old.size = cells.size) (h1 : cells.all (·.oneCell') = true)
    (h : K a (w.setRow g cells)) : o.wp P a w K Q :=
  wp_store_row ty x y ho g cells hx hy t old hg hi hold h1 (by rw [hd]; exact h)
end
section
variable {P : Program} {ops : Array Oper} {rest : List Oper} {o : Oper} {a : Act} {w w' : World} {Q : Exit → Act → World → Prop}
theorem wpL_buildN (hw : Region.wanted o (yielded ops a.tmps) = true) (t : TypeId) (xs : Array (Nat × Operand)) (ho : o.op = .build t xs) (vs : Array (Nat × Value)) (hv : (xs.map fun (i, x) => (i, a.eval x)) = vs) {u : Value} (hr : (Instr.build t vs).run P w = .ok u w) (hk : wpList P ops Q rest (a.put o.dst u) w) : wpList P ops Q (o :: rest) a w := by
  subst hv
  refine wpList_step fun K hK => ?_
  rw [if_pos hw]
  unfold Oper.wp execOp
  simp only [ho, Sem.run_bind, hr, Result.andThen_ok, Sem.run_pure]
  exact hK _ _ hk
end

end Go.Proofs.Ytohichignjjleaa

namespace Go.Proofs.Ytohichignjjleaa
open Go.RowKit Go.Lib

theorem keyInfo11 {l : List UInt8} (h : l.length = 32) : (Try.prog.info? 26).map (·.size) = some (bcells l).toArray.size := by rw [shaInfo30, List.size_toArray, bcells_length, h]
theorem keyInfo22 {l : List UInt8} (h : l.length = 32) : (Try.prog.info? 25).map (·.size) = some (bcells l).toArray.size := by rw [macInfo24, List.size_toArray, bcells_length, h]
theorem keySize11 {l : List UInt8} (h : l.length = 32) : zeros32.size = (bcells l).toArray.size := by rw [zeros32_size, List.size_toArray, bcells_length, h]
theorem load_hash11 {w : World} {b : Nat} {l : List UInt8} (hl : l.length = 32) (h : w.heap[b]? = some (.cells (bcells l).toArray 26 (0, 0))) : (loadVar 26 ⟨b, 0, none⟩).run Try.prog w = .ok (.agg (bcells l).toArray) w :=
  run_loadVar_row w b 26 26 _ (0, 0) _ h Try.underlying26 rfl (keyInfo11 hl)
theorem load_arr11 {w : World} {b : Nat} {l : List UInt8} (hl : l.length = 32) (h : w.heap[b]? = some (.cells (bcells l).toArray 25 (0, 0))) : (loadVar 25 ⟨b, 0, none⟩).run Try.prog w = .ok (.agg (bcells l).toArray) w :=
  run_loadVar_row w b 25 25 _ (0, 0) _ h Try.underlying25 rfl (keyInfo22 hl)
set_option maxRecDepth 100000 in
theorem alloc_hash11 (w : World) : (Instr.alloc 26 true (.tuple #[])).run Try.prog w = .ok (.pointer (some ⟨w.heap.size, 0, none⟩)) (w.alloc (.cells zeros32 26)) := by kernel_rfl
set_option maxRecDepth 100000 in
theorem alloc_arr11 (w : World) : (Instr.alloc 25 true (.tuple #[])).run Try.prog w = .ok (.pointer (some ⟨w.heap.size, 0, none⟩)) (w.alloc (.cells zeros32 25)) := by kernel_rfl
end Go.Proofs.Ytohichignjjleaa
