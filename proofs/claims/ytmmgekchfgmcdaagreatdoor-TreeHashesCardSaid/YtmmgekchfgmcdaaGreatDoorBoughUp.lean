/-
  The way up, as a range over a function: what it yields.
-/
import Derived.RangeFuncNested
import Derived.RangeFuncBound
import Derived.RangeFuncCalls
import Derived.RangeFuncLeaves
import Derived.RangeFuncFrom
import Derived.RangeFuncBox
import Derived.Shelf.Abstract
import Derived.OwnWalkIn
import Derived.TacticsInMore
import Derived.LoopNIn
import Derived.LoopIn
import Derived.Maps.AppendAt
import Derived.Test.YtmmgekchfgmcdaaGreatDoorBoughUps
import Derived.Test.YtmmgekchfgmcdaaGreatDoorBoughAbove

namespace Go.Proofs.YtmmgekchfgmcdaaGreatDoor
open Go.RowKit Go.Shelf Go.Lib

attribute [local go_sem] Oper.semAt_some

/-- What a box holds it holds on. -/
def KeepsBox (B : Nat) (v : Value) (W W' : World) : Prop := Boxed W B 3 v → Boxed W' B 3 v
theorem keepsBox_t {B : Nat} {v : Value} {A C D : World} (h : KeepsBox B v A C) (k : KeepsBox B v C D) : KeepsBox B v A D := fun x => k (h x)
theorem keepsBox_b {B : Nat} {v : Value} {w : World} (hB : B < w.heap.size) (W : World) (l : Nat) (o o' : Obj) (hl : w.heap.size ≤ l) (_ : W.heap[l]? = some o) (_ : o.isCells = false) (_ : o.isWalk = false) : KeepsBox B v W (W.putObj l o') := fun x =>
  x.kept (grownBy_putObj' W l o') (fun e => by cases e; omega)
theorem keepsBox_below {B : Nat} {v : Value} {W W' : World} {n₀ : Nat} (hB : B < n₀) (h : Below n₀ W W') : KeepsBox B v W W' := fun x => (h.block B hB).trans x
theorem grownBy_of {w w' : World} (h : Kept w.heap.size w.heap.size w w') : w.grownBy w' none := ⟨h.os, h.tape, h.output, h.size, fun k hk _ => h.block k hk (Nat.ne_of_lt hk)⟩
theorem below_of {w w' : World} (h : Kept w.heap.size w.heap.size w w') : Below w.heap.size w w' := h.below (Nat.le_refl _) (Nat.le_refl _)

set_option maxRecDepth 100000 in
set_option maxHeartbeats 1000000 in
theorem up_calls (n x : Int) (w : World) : Calls Tryz.prog 112 #[.int .i64 n, .int .i64 x] w fun e w' => e = .returned (.func (.func 135) #[] #[.pointer (some ⟨w.heap.size, 0, none⟩), .pointer (some ⟨w.heap.size + 1, 0, none⟩)]) ∧ w' = (w.alloc (.cells #[.int .i64 n] 3)).alloc (.cells #[.int .i64 x] 3) := by
  go_enter Tryz.func112, Tryz.ntmps112
  go_wp2
  go_ret
  exact ⟨rfl, rfl⟩

set_option maxRecDepth 100000 in
set_option maxHeartbeats 2000000 in
theorem up1_in (HL : LenIs) (m : Nat) (hm : 1 ≤ m) (l Bn Bx : Nat) (n x : Int) (J Jx : List Int → World → Prop)
    (hY : ∀ pre p W1, J pre W1 → pre.length < (Bo.ups n x).length → YieldAt Fence.wide (m - 1) Tryz.prog l #[.int .i64 p] W1 fun e W' =>
      (e = .returned (.bool true) ∧ J (pre ++ [p]) W' ∧ KeepsBox Bn (.int .i64 n) W1 W') ∨ (e = .returned (.bool false) ∧ Jx (pre ++ [p]) W'))
    (W : World) (hJ : AbidesFrom W.heap.size J) (hbn : Boxed W Bn 3 (.int .i64 n)) (hbx : Boxed W Bx 3 (.int .i64 x)) (h0 : J [] W) :
    CallsIn Fence.wide m Tryz.prog 135 #[.func (.yield l) #[] #[], .pointer (some ⟨Bn, 0, none⟩), .pointer (some ⟨Bx, 0, none⟩)] W fun e W' => (∃ v, e = .returned v) ∧
      ((∃ ys, ys = Bo.ups n x ∧ J ys W') ∨ (∃ pre, pre <+: Bo.ups n x ∧ Jx pre W')) := by
  have habove := fun y w => (callsIn_wide (n := m - 1)).2 (above_calls HL n y w)
  have HA := Lib.hid habove
  have hcn := hbn.cell
  have hcx := hbx.cell
  have HBN := Lib.hid hbn
  have HJ := Lib.hid hJ
  have H0 := Lib.hid h0
  have HY := Lib.hid hY
  obtain ⟨L, hL⟩ : ∃ L, L = Bo.ups n x := ⟨_, rfl⟩
  have HLL := Lib.hid hL
  rw [← hL] at HY ⊢
  clear habove hbn hbx hJ h0 hY HL hL
  refine callsIn_of_wp Tryz.func135 rfl trivial ?_ rfl
  simp only [Tryz.ntmps135, List.size_toArray, List.length_cons, List.length_nil, Nat.reduceAdd, Nat.reduceSub, Array.replicate_succ, Array.replicate_zero, List.push_toArray, List.append_toArray, List.nil_append, List.cons_append]
  gi_wp2_with (refine ⟨trivial, ?_⟩; gi_at_call 115; refine (HA.out _ _).mono ?_; rintro e w2 ⟨rfl, k2⟩; have K2 := Lib.hid k2)
  gi_loopw [4] (fun s4 wr => ∃ (pre : List Int) (p : Int), s4 = .int .i64 p ∧ Hid (L = pre ++ Bo.chain n p) ∧ Hid (Boxed wr Bn 3 (.int .i64 n)) ∧ Hid (0 ≤ wr.heap.size) ∧ Hid (J pre wr)) (fun s4 _ => Bo.far n (RowKit.intOf s4))
  case atStart =>
    refine ⟨[], Bo.Above n x, rfl, Lib.hid ?_, Lib.hid (HBN.out.kept (grownBy_of k2) (by simp)), Lib.hid (Nat.zero_le _), Lib.hid (HJ.out _ _ _ _ H0.out (grownBy_of k2) (fun r e => by cases e))⟩
    rw [HLL.out]
    rfl
  case round =>
    obtain ⟨pre, p, rfl, hpre, hbn, hsz, hj⟩ := hrel
    by_cases hp : p < 0
    · have hp' : ¬ p ≥ 0 := by omega
      have hend := Lib.hid (Bo.chain_end (n := n) hp)
      gi_wp2
      go_end0
      have e : L = pre := by rw [hpre.out, hend.out]; simp
      exact ⟨⟨_, rfl⟩, .inl (by rw [e]; exact hj.out)⟩
    · have hp' : p ≥ 0 := by omega
      have hstep := Lib.hid (Bo.chain_step (n := n) hp)
      have hfar := Lib.hid (Bo.far_less n p (by omega))
      obtain ⟨fn, tmps, assign, body, hy, hR⟩ := HY.out pre p wr hj.out (by rw [hpre.out, hstep.out]; simp)
      gi_wp2
      refine hR.mono ?_
      rintro e W3 (⟨rfl, hJ3, hk3⟩ | ⟨rfl, hJx3⟩)
      · have hb3 := hk3 hbn.out
        have hc3 := hb3.cell
        have HB3 := Lib.hid hb3
        have HJ3 := Lib.hid hJ3
        clear hk3 hb3 hJ3 hR
        gi_wp2_with (refine ⟨trivial, ?_⟩; gi_at_call 115; refine (HA.out _ _).mono ?_; rintro e w4 ⟨rfl, k4⟩; have K4 := Lib.hid k4)
        go_roundw
        case rel => exact ⟨pre ++ [p], Bo.Above n p, rfl, Lib.hid (by rw [hpre.out, hstep.out]; simp), Lib.hid (HB3.out.kept (grownBy_of k4) (by simp)), Lib.hid (Nat.zero_le _), Lib.hid (HJ.out _ _ _ _ HJ3.out (grownBy_of k4) (fun r e => by cases e))⟩
        case measure => exact hfar.out
      · gi_wp2
        refine bodyPost_ret (results_none rfl _ _ _) rfl ?_
        exact ⟨⟨_, rfl⟩, .inr ⟨pre ++ [p], ⟨Bo.chain n (Bo.Above n p), by rw [hpre.out, hstep.out]; simp⟩, hJx3⟩⟩

/-- What 'up' hands back yields the nodes above, in their order. -/
theorem up_stops (HL : LenIs) (m : Nat) (hm : 1 ≤ m) (Bn Bx : Nat) (n x : Int) (w : World) (hbn : Boxed w Bn 3 (.int .i64 n)) (hbx : Boxed w Bx 3 (.int .i64 x)) :
    SeqStopsK Fence.wide m Tryz.prog 135 #[.pointer (some ⟨Bn, 0, none⟩), .pointer (some ⟨Bx, 0, none⟩)] (fun p : Int => #[Value.int .i64 p]) (KeepsBox Bn (.int .i64 n)) (fun ys => ys = Bo.ups n x) (fun pre => pre <+: Bo.ups n x) (Bo.ups n x).length w := fun l J Jx W hW hJ _ hY h0 =>
  up1_in HL m hm l Bn Bx n x J Jx hY W hJ ((hW.block Bn hbn.lt).trans hbn) ((hW.block Bx hbx.lt).trans hbx) h0

end Go.Proofs.YtmmgekchfgmcdaaGreatDoor
