/-
  The nodes above a leaf, collected.
-/
import Derived.Test.YtmmgekchfgmcdaaGreatDoorBoughUp
import Derived.Test.YtmmgekchfgmcdaaGreatDoorBoughSay

namespace Go.Proofs.YtmmgekchfgmcdaaGreatDoor
open Go.RowKit Go.Shelf Go.Lib

attribute [local go_sem] Oper.semAt_some

theorem intInfo : (Tryz.prog.info? 3).map (fun i => (i.zero, i.size, i.bytes)) = some (some (.int .i64 0), 1, 8) := by kernel_rfl

/-- A row of numbers that a slice owns. -/
def Ints (w : World) (base : Nat) (v : Value) (L : List Int) : Prop := w.ownsRow base 3 1 v L.length (L.map (Value.int .i64))

theorem owns_lower {w : World} {base base' : Nat} {e : TypeId} {size : Nat} {v : Value} {n : Nat} {xs : List Value} (h : w.ownsRow base e size v n xs) (hb : base' ≤ base) : w.ownsRow base' e size v n xs := by
  refine ⟨h.1, h.2.imp (fun x => x) ?_⟩
  rintro ⟨g, cap, cur, h1, h2, h3⟩
  exact ⟨g, cap, cur, h1, Nat.le_trans hb h2, h3⟩

def Bo.Direct (n leaf : Int) : List Int := if Bo.leaf n leaf then Bo.ups n (2 * leaf) else []

set_option maxRecDepth 100000 in
set_option maxHeartbeats 2000000 in
theorem direct_in (HL : LenIs) (n leaf : Int) (h : Bo.leaf n leaf = true) (w : World) : CallsIn Fence.wide 3 Tryz.prog 73 #[.int .i64 n, .int .i64 leaf] w fun e W' => ∃ v, e = .returned v ∧ Ints W' w.heap.size v (Bo.ups n (2 * leaf)) ∧ Below w.heap.size w W' := by
  have hn := fun w => (callsIn_wide (n := 2)).2 (isleaf_calls n leaf w)
  rw [h] at hn
  have hb : 0 ≤ leaf ∧ leaf ≤ 64 := by simp [Bo.leaf] at h; omega
  obtain ⟨hb1, hb2⟩ := hb
  have hup := fun w => (callsIn_wide (n := 2)).2 (up_calls n (2 * leaf) w)
  have HN := Lib.hid hn
  have HU := Lib.hid hup
  have HLN := Lib.hid (Bo.chain_length n (Bo.Above n (2 * leaf)))
  clear hn hup h
  obtain ⟨i0, hi, hz0, hz1, hz2⟩ := info_parts intInfo
  refine callsIn_of_wp_marks Tryz.func73 rfl trivial ?_ rfl
  simp only [Tryz.ntmps73, List.size_toArray, List.length_cons, List.length_nil, Nat.reduceAdd, Nat.reduceSub, Array.replicate_succ, Array.replicate_zero, List.push_toArray, List.append_toArray, List.nil_append, List.cons_append]
  gi_wp2_with (first
    | (refine ⟨trivial, ?_⟩; gi_at_call 111; refine (HN.out _).mono ?_; rintro e w1 ⟨rfl, hw1⟩; subst w1)
    | (refine ⟨trivial, ?_⟩; gi_at_call 112; refine (HU.out _).mono ?_; rintro e w' ⟨rfl, rfl⟩))
  have bO := Boxed.new w 35 (.slice none 0 0)
  have bN := Boxed.new (w.alloc (.cells #[.slice none 0 0] 35)) 3 (.int .i64 n)
  rw [World.size_alloc] at bN
  have bX := Boxed.new ((w.alloc (.cells #[.slice none 0 0] 35)).alloc (.cells #[.int .i64 n] 3)) 3 (.int .i64 (2 * leaf))
  rw [World.size_alloc, World.size_alloc] at bX
  have hB0 : Below w.heap.size w (((w.alloc (.cells #[.slice none 0 0] 35)).alloc (.cells #[.int .i64 n] 3)).alloc (.cells #[.int .i64 (2 * leaf)] 3)) := (((Below.refl _ w).alloc (Nat.le_refl _) _).alloc (by simp) _).alloc (by simp; omega) _
  refine wpIn_rangeFunc_ownG rfl (by omega) (gf := 135) (lb := #[.pointer (some ⟨w.heap.size + 1, 0, none⟩), .pointer (some ⟨w.heap.size + 1 + 1, 0, none⟩)]) rfl trivial (enters_of Tryz.func135 (by kernel_rfl) rfl)
    (up_stops HL 2 (by omega) (w.heap.size + 1) (w.heap.size + 1 + 1) n (2 * leaf) _ (bN.alloc _) bX) keepsBox_t (keepsBox_b (by simp)) (Below.refl _ _) (fun _ => rfl)
    (fun pre W => ((∃ v, Boxed W w.heap.size 35 v ∧ W.ownsRow (w.heap.size + 3) 3 1 v pre.length (pre.map (Value.int .i64)) ∧ True) ∧ w.heap.size + 3 ≤ W.heap.size) ∧ Below w.heap.size w W)
    (fun _ _ _ => False)
    (OwnFrom.and (OwnFrom.and (Own.from (holdsRow_own (w.heap.size + 3) w.heap.size 35 3 1 (fun pre : List Int => pre.length) (fun pre => pre.map (Value.int .i64)) (fun _ _ => True)) _) (fun s A B row hs hg hr => Nat.le_trans hs hg.size)) (ownFrom_below (Nat.le_refl _) (by simp; omega)))
    (fun _ _ _ _ _ hs _ _ => hs)
    ⟨⟨⟨_, (bO.alloc _).alloc _, World.ownsRow_nil _ _ _ _, trivial⟩, by simp⟩, hB0⟩
    (fun x => { tmps := #[.int .i64 n, .int .i64 leaf, undef, undef, .slice none 0 0, .pointer (some ⟨w.heap.size, 0, none⟩), .int .i64 x, .int .i64 n, .int .i64 leaf, .bool true, .bool false, .int .i64 n, .int .i64 leaf, .int .i64 (2 * leaf), .func (.func 135) #[] #[.pointer (some ⟨w.heap.size + 1, 0, none⟩), .pointer (some ⟨w.heap.size + 1 + 1, 0, none⟩)], .int .i64 x, undef, undef, undef, undef, undef], defers := [] }) ?assign ?body ?done ?stop
  case assign =>
    intro l x W K hK
    gi_wp2
    exact hK
  case body =>
    rintro l pre x W ⟨⟨⟨v, hv, hrow, _⟩, hsz⟩, hB⟩ hlt
    have hc := hv.cell
    have hpl : pre.length < (Bo.chain n (Bo.Above n (2 * leaf))).length := hlt
    have hpl2 := HLN.out
    gi_wp2_with (gi_at_builtin; refine wpListIn_append_own _ rfl _ _ 35 rfl (w.heap.size + 3) 3 i0 (.int .i64 0) 1 8 Tryz.underlying35 hi hz0 hz1 hz2 rfl (by decide) _ _ _ rfl (hrow.alloc _) ⟨W.heap.size, 0, none⟩ 1 1 [.int .i64 x] rfl rfl (cell_one_new _ _ _) (by simp [Value.oneCell']) (by have : pre.length + 1 ≤ 66 := (by omega); exact Nat.le_trans this (by decide)) (by omega) (by simp; omega) ?_; intro v' w1 hown' hgrow _; obtain ⟨g', cap', rfl⟩ := ownsRow_succ hown'; obtain ⟨hv1, hv2, hr2, hk2, hb2⟩ := hv.appended (show (35 : Nat) ≠ 3 by decide) (owns_lower hrow (Nat.le_add_right _ 3)) hB.size (Nat.le_refl _) (owns_lower hown' (Nat.le_add_right _ 3)) hgrow; have hc1 := hv1.cell; have hf1 := hv1.frozen)
    refine ⟨hk2.from _, fun y => ?_, ⟨⟨_, hv2, ?_, trivial⟩, ?_⟩, hB.trans hb2⟩
    · exact ((y.alloc _).kept hgrow (fun e => by have := (hrow.lt _ e.symm).1; omega)).kept (grownBy_setCell' _ w.heap.size _) (by simp)
    · have h3 := hown'.kept (grownBy_setCell' w1 w.heap.size (.slice (some ⟨g', 0, none⟩) (pre.length + 1) cap')) (.inr (fun e => by have := (hown'.lt _ e).1; omega))
      simpa using h3
    · have := hgrow.size
      simp at this ⊢
      omega
  case done =>
    rintro D ys W hD rfl ⟨⟨⟨v, hv, hrow, _⟩, hsz⟩, hB⟩ hK
    have hc := hv.cell
    gi_wp2
    refine ⟨by simp, .inl ⟨_, _, rfl, run_takeDeferred hK, ?_⟩⟩
    exact ⟨_, results_tmp rfl _ _ _, v, rfl, ownsRow_putObj (owns_lower hrow (Nat.le_add_right _ 3)) _ hK rfl, hB.trans (belowK_b (w := w) (Nat.le_refl _) W D _ _ (by simp at hD; omega) hK rfl rfl)⟩
  case stop =>
    rintro D c pre W _ _ h _
    exact h.elim

theorem direct_yes (HL : LenIs) (n leaf : Int) (h : Bo.leaf n leaf = true) (w : World) : Calls Tryz.prog 73 #[.int .i64 n, .int .i64 leaf] w fun e W' => ∃ v, e = .returned v ∧ Ints W' w.heap.size v (Bo.Direct n leaf) ∧ Kept w.heap.size w.heap.size w W' := by
  rw [Bo.Direct, if_pos h]
  exact (callsIn_wide.1 (direct_in HL n leaf h w)).mono fun e W' ⟨v, h1, h2, h3⟩ => ⟨v, h1, h2, Kept.ofBelow h3 (Nat.le_refl _)⟩

set_option maxRecDepth 100000 in
theorem direct_no (n leaf : Int) (h : Bo.leaf n leaf = false) (w : World) : Calls Tryz.prog 73 #[.int .i64 n, .int .i64 leaf] w fun e W' => ∃ v, e = .returned v ∧ Ints W' w.heap.size v (Bo.Direct n leaf) ∧ Kept w.heap.size w.heap.size w W' := by
  have hn := fun w => isleaf_calls n leaf w
  rw [h] at hn
  have HN := Lib.hid hn
  have HE := Lib.hid (show Bo.Direct n leaf = [] by rw [Bo.Direct, h]; rfl)
  clear hn h
  go_enter Tryz.func73, Tryz.ntmps73
  go_wp2_with (go_at_call 111; refine (HN.out _).mono ?_; rintro e w1 ⟨rfl, hw1⟩; subst w1)
  go_ret
  exact ⟨_, rfl, by rw [HE.out]; exact World.ownsRow_nil _ _ _ _, Kept.refl _ _ _⟩

theorem direct_calls (HL : LenIs) (n leaf : Int) (w : World) : Calls Tryz.prog 73 #[.int .i64 n, .int .i64 leaf] w fun e W' => ∃ v, e = .returned v ∧ Ints W' w.heap.size v (Bo.Direct n leaf) ∧ Kept w.heap.size w.heap.size w W' := by
  by_cases h : Bo.leaf n leaf = true
  · exact direct_yes HL n leaf h w
  · exact direct_no n leaf (by simpa using h) w

end Go.Proofs.YtmmgekchfgmcdaaGreatDoor
