/-
  The lowest node over two leaves.
-/
import Derived.Test.YthhplmgpgnajbaaBoughDirect
namespace Go.Proofs.Ythhplmgpgnajbaa
open Go.RowKit Go.Shelf Go.Lib

attribute [local go_sem] Oper.semAt_some

def Bo.lowest (n a b : Int) : Int := ((Bo.ups n (2 * a)).find? (fun x => Bo.Holds n x b)).getD (-1)
def Bo.Common (n a b : Int) : Int := if Bo.leaf n a then (if a = b then 2 * a else Bo.lowest n a b) else -1

set_option maxRecDepth 100000 in
set_option maxHeartbeats 2000000 in
theorem common_in (HL : LenIs) (n a b : Int) (h : Bo.leaf n a = true) (hab : a ≠ b) (w : World) : CallsIn Fence.wide 3 Try.prog 27 #[.int .i64 n, .int .i64 a, .int .i64 b] w fun e W' => e = .returned (.int .i64 (Bo.lowest n a b)) ∧ Below w.heap.size w W' := by
  have hn := fun w => (callsIn_wide (n := 2)).2 (isleaf_calls n a w)
  rw [h] at hn
  have hb : 0 ≤ a ∧ a ≤ 64 := by simp [Bo.leaf] at h; omega
  obtain ⟨hb1, hb2⟩ := hb
  have hup := fun w => (callsIn_wide (n := 2)).2 (up_calls n (2 * a) w)
  have hholds := fun x w => holds_calls HL n x b w
  have HN := Lib.hid hn
  have HU := Lib.hid hup
  have HH := Lib.hid hholds
  have hne : (a == b) = false := by simpa using hab
  clear hn hup h hholds hab
  refine callsIn_of_wp_marks Try.func27 rfl trivial ?_ rfl
  simp only [Try.ntmps27, List.size_toArray, List.length_cons, List.length_nil, Nat.reduceAdd, Nat.reduceSub, Array.replicate_succ, Array.replicate_zero, List.push_toArray, List.append_toArray, List.nil_append, List.cons_append]
  gi_wp2_with (first
    | (refine ⟨trivial, ?_⟩; gi_at_call 45; refine (HN.out _).mono ?_; rintro e w1 ⟨rfl, hw1⟩; subst w1)
    | (refine ⟨trivial, ?_⟩; gi_at_call 46; refine (HU.out _).mono ?_; rintro e w' ⟨rfl, rfl⟩))
  have bA := Boxed.new w 3 (.int .i64 n)
  have bB := Boxed.new (w.alloc (.cells #[.int .i64 n] 3)) 3 (.int .i64 b)
  have bR := Boxed.new ((w.alloc (.cells #[.int .i64 n] 3)).alloc (.cells #[.int .i64 b] 3)) 3 (.int .i64 0)
  have bN := Boxed.new (((w.alloc (.cells #[.int .i64 n] 3)).alloc (.cells #[.int .i64 b] 3)).alloc (.cells #[.int .i64 0] 3)) 3 (.int .i64 n)
  have bX := Boxed.new ((((w.alloc (.cells #[.int .i64 n] 3)).alloc (.cells #[.int .i64 b] 3)).alloc (.cells #[.int .i64 0] 3)).alloc (.cells #[.int .i64 n] 3)) 3 (.int .i64 (2 * a))
  simp only [World.size_alloc] at bB bR bN bX
  have hB0 : Below w.heap.size w (((((w.alloc (.cells #[.int .i64 n] 3)).alloc (.cells #[.int .i64 b] 3)).alloc (.cells #[.int .i64 0] 3)).alloc (.cells #[.int .i64 n] 3)).alloc (.cells #[.int .i64 (2 * a)] 3)) := (((((Below.refl _ w).alloc (Nat.le_refl _) _).alloc (by simp) _).alloc (by simp; omega) _).alloc (by simp; omega) _).alloc (by simp; omega) _
  have hall : Boxed (((((w.alloc (.cells #[.int .i64 n] 3)).alloc (.cells #[.int .i64 b] 3)).alloc (.cells #[.int .i64 0] 3)).alloc (.cells #[.int .i64 n] 3)).alloc (.cells #[.int .i64 (2 * a)] 3)) w.heap.size 3 (.int .i64 n) ∧ Boxed (((((w.alloc (.cells #[.int .i64 n] 3)).alloc (.cells #[.int .i64 b] 3)).alloc (.cells #[.int .i64 0] 3)).alloc (.cells #[.int .i64 n] 3)).alloc (.cells #[.int .i64 (2 * a)] 3)) (w.heap.size + 1) 3 (.int .i64 b) ∧ Boxed (((((w.alloc (.cells #[.int .i64 n] 3)).alloc (.cells #[.int .i64 b] 3)).alloc (.cells #[.int .i64 0] 3)).alloc (.cells #[.int .i64 n] 3)).alloc (.cells #[.int .i64 (2 * a)] 3)) (w.heap.size + 1 + 1) 3 (.int .i64 0) ∧ Boxed (((((w.alloc (.cells #[.int .i64 n] 3)).alloc (.cells #[.int .i64 b] 3)).alloc (.cells #[.int .i64 0] 3)).alloc (.cells #[.int .i64 n] 3)).alloc (.cells #[.int .i64 (2 * a)] 3)) (w.heap.size + 1 + 1 + 1) 3 (.int .i64 n) ∧ Boxed (((((w.alloc (.cells #[.int .i64 n] 3)).alloc (.cells #[.int .i64 b] 3)).alloc (.cells #[.int .i64 0] 3)).alloc (.cells #[.int .i64 n] 3)).alloc (.cells #[.int .i64 (2 * a)] 3)) (w.heap.size + 1 + 1 + 1 + 1) 3 (.int .i64 (2 * a)) :=
    ⟨(((bA.alloc _).alloc _).alloc _).alloc _, ((bB.alloc _).alloc _).alloc _, (bR.alloc _).alloc _, bN.alloc _, bX⟩
  have hs5 : (((((w.alloc (.cells #[.int .i64 n] 3)).alloc (.cells #[.int .i64 b] 3)).alloc (.cells #[.int .i64 0] 3)).alloc (.cells #[.int .i64 n] 3)).alloc (.cells #[.int .i64 (2 * a)] 3)).heap.size = w.heap.size + 5 := by simp
  clear bA bB bR bN bX
  generalize (((((w.alloc (.cells #[.int .i64 n] 3)).alloc (.cells #[.int .i64 b] 3)).alloc (.cells #[.int .i64 0] 3)).alloc (.cells #[.int .i64 n] 3)).alloc (.cells #[.int .i64 (2 * a)] 3)) = W0 at hB0 hall hs5 ⊢
  obtain ⟨bA, bB, bR, bN, bX⟩ := hall
  refine wpIn_rangeFunc_ownG rfl (by omega) (gf := 48) (lb := #[.pointer (some ⟨w.heap.size + 1 + 1 + 1, 0, none⟩), .pointer (some ⟨w.heap.size + 1 + 1 + 1 + 1, 0, none⟩)]) rfl trivial (enters_of Try.func48 (by kernel_rfl) rfl)
    (up_stops HL 2 (by omega) (w.heap.size + 1 + 1 + 1) (w.heap.size + 1 + 1 + 1 + 1) n (2 * a) W0 bN bX) keepsBox_t (keepsBox_b (by omega)) (Below.refl _ _) (fun _ => rfl)
    (fun pre W => ((∀ y ∈ pre, Bo.Holds n y b = false) ∧ Boxed W w.heap.size 3 (.int .i64 n) ∧ Boxed W (w.heap.size + 1) 3 (.int .i64 b) ∧ Boxed W (w.heap.size + 1 + 1) 3 (.int .i64 0) ∧ w.heap.size + 5 ≤ W.heap.size) ∧ Below w.heap.size w W)
    (fun c pre W => (c = .ret ∧ ∃ q y, pre = q ++ [y] ∧ (∀ z ∈ q, Bo.Holds n z b = false) ∧ Bo.Holds n y b = true ∧ Boxed W (w.heap.size + 1 + 1) 3 (.int .i64 y)) ∧ Below w.heap.size w W)
    (OwnFrom.and (fun s A B row hs hg hr => ⟨hs.1, hs.2.1.kept hg (fun e => by have := (hr _ e.symm).1; omega), hs.2.2.1.kept hg (fun e => by have := (hr _ e.symm).1; omega), hs.2.2.2.1.kept hg (fun e => by have := (hr _ e.symm).1; omega), Nat.le_trans hs.2.2.2.2 hg.size⟩) (ownFrom_below (Nat.le_refl _) (by omega)))
    (fun c => OwnFrom.and (fun s A B row hs hg hr => by obtain ⟨hc, q, y, h1, h2, h3, h4⟩ := hs; exact ⟨hc, q, y, h1, h2, h3, h4.kept hg (fun e => by have := (hr _ e.symm).1; omega)⟩) (ownFrom_below (Nat.le_refl _) (by omega)))
    ⟨⟨by simp, bA, bB, bR, by omega⟩, hB0⟩
    (fun x => { tmps := #[.int .i64 n, .int .i64 a, .int .i64 b, .pointer (some ⟨w.heap.size, 0, none⟩), undef, .pointer (some ⟨w.heap.size + 1, 0, none⟩), .pointer (some ⟨w.heap.size + 1 + 1, 0, none⟩), .int .i64 x, .int .i64 n, .int .i64 a, .bool true, .bool false, .int .i64 a, .int .i64 b, .bool false, undef, undef, .int .i64 n, .int .i64 a, .int .i64 (2 * a), .func (.func 48) #[] #[.pointer (some ⟨w.heap.size + 1 + 1 + 1, 0, none⟩), .pointer (some ⟨w.heap.size + 1 + 1 + 1 + 1, 0, none⟩)], .int .i64 x, undef, undef, undef, undef, undef], defers := [] }) ?assign ?body ?done ?stop
  case assign =>
    intro l x W K hK
    gi_wp2
    exact hK
  case body =>
    rintro l pre x W ⟨⟨hpre, hbA, hbB, hbR, hsz⟩, hB⟩ hlt
    have cA := hbA.cell
    have cB := hbB.cell
    have hcall := (CallsIn.inRound l ((callsIn_wide (n := 0)).2 (HH.out x W)))
    obtain ⟨q, hq⟩ : ∃ q, q = Bo.Holds n x b := ⟨_, rfl⟩
    rw [← hq] at hcall
    have HQ := Lib.hid hq
    have HC := Lib.hid hcall
    clear hcall hq
    cases q
    · gi_wp2_with (refine ⟨trivial, ?_⟩; gi_at_call 31; refine (HC.out).mono ?_; rintro e w2 ⟨rfl, k2⟩)
      have g2 := grownBy_of k2
      refine ⟨KeepsFrom.of_grownBy g2 (fun j e => by cases e), fun y => y.kept g2 (by simp), ⟨fun y hy => ?_, hbA.kept g2 (by simp), hbB.kept g2 (by simp), hbR.kept g2 (by simp), Nat.le_trans hsz k2.size⟩, hB.trans ((below_of k2).mono hB.size)⟩
      rcases List.mem_append.1 hy with hy | hy
      · exact hpre y hy
      · simp at hy
        rw [hy]
        exact HQ.out.symm
    · gi_wp2_with (refine ⟨trivial, ?_⟩; gi_at_call 31; refine (HC.out).mono ?_; rintro e w2 ⟨rfl, k2⟩; have hbR2 := hbR.kept (grownBy_of k2) (by simp); have cR := hbR2.cell; have fR := hbR2.frozen)
      have g2 := grownBy_of k2
      exact ⟨(KeepsFrom.of_grownBy g2 (fun j e => by cases e)).trans ((KeepsOthers.setCell _ _ _).from _), ⟨rfl, pre, x, rfl, hpre, HQ.out.symm, hbR2.set _⟩, (hB.trans ((below_of k2).mono hB.size)).setCell (p := ⟨w.heap.size + 1 + 1, 0, none⟩) (by simp; omega) _⟩
  case done =>
    rintro D ys W hD rfl ⟨⟨hpre, hbA, hbB, hbR, hsz⟩, hB⟩ hK
    have cR := hbR.cell
    have fR := hbR.frozen
    gi_wp2
    have hK' := (KeepsOthers.setCell W ⟨w.heap.size + 1 + 1, 0, none⟩ (.int .i64 (-1))).same D _ hK rfl
    refine ⟨by simp, .inl ⟨_, _, rfl, run_takeDeferred hK', ?_⟩⟩
    have hb5 := (hbR.set (.int .i64 (-1))).kept (grownBy_putObj' _ D (.deferred none)) (fun e => by simp at e; omega)
    have hc5 := hb5.cell
    have hres : Bo.lowest n a b = -1 := by
      rw [Bo.lowest, List.find?_eq_none.2 (fun y hy => by simp [hpre y hy])]
      rfl
    refine ⟨.int .i64 (-1), ?_, by rw [hres], (hB.setCell (p := ⟨w.heap.size + 1 + 1, 0, none⟩) (by simp; omega) _).trans (belowK_b (w := w) (Nat.le_refl _) _ D _ _ (by omega) hK' rfl rfl)⟩
    simp [results, Try.f27, go_sem, hc5]
  case stop =>
    rintro D c pre W hD hSp ⟨⟨rfl, q, y, rfl, hq, hy, hbR⟩, hB⟩ hK
    gi_wp2
    refine ⟨by simp, .inl ⟨_, _, rfl, run_takeDeferred hK, ?_⟩⟩
    have hb5 := hbR.kept (grownBy_putObj' W D (.deferred none)) (fun e => by simp at e; omega)
    have hc5 := hb5.cell
    have hres : Bo.lowest n a b = y := by
      obtain ⟨rest, hrest⟩ := hSp
      rw [Bo.lowest, ← hrest, List.append_assoc, List.find?_append, List.find?_eq_none.2 (fun z hz => by simp [hq z hz])]
      simp [hy]
    refine ⟨.int .i64 y, ?_, by rw [hres], hB.trans (belowK_b (w := w) (Nat.le_refl _) W D _ _ (by omega) hK rfl rfl)⟩
    simp [results, Try.f27, go_sem, hc5]

end Go.Proofs.Ythhplmgpgnajbaa
