/-
  ChgSmall; ChgOrder; ChgEq; ChgLess: several texts in one.
-/
import Derived.Test.YtcjcomeakkjiiaaDoorIA

namespace Go.Proofs.YtcjcomeakkjiiaaDoor
open Go.RowKit Go.Lib

theorem isname_calls10 (n : Int) (w : World) : Calls Tryd.prog 24 #[.int .i64 n] w fun e w' => e = .returned (.bool (Cm.isNm n)) ∧ w' = w := by
  go_enter Tryd.func24, Tryd.ntmps24
  by_cases h : 1 ≤ n
  · have hd : decide (n ≥ 1) = true := decide_eq_true h
    go_wp2
    go_ret
    simp [h, Cm.isNm]
  · have hd : decide (n ≥ 1) = false := decide_eq_false h
    go_wp2
    go_ret
    simp [Cm.isNm]
    omega
theorem rank_calls10 (n : Int) (w : World) : Calls Tryd.prog 42 #[.int .i64 n] w fun e w' => e = .returned (.int .i64 (Cm.rank n : Int)) ∧ w' = w := by
  go_enter Tryd.func42, Tryd.ntmps42
  by_cases h2 : n = 2
  · subst h2
    go_wp2
    go_ret
    exact ⟨rfl, rfl⟩
  · have e2 : (n == 2) = false := beq_eq_false_iff_ne.2 h2
    by_cases h3 : n = 3
    · subst h3
      go_wp2
      go_ret
      exact ⟨rfl, rfl⟩
    · have e3 : (n == 3) = false := beq_eq_false_iff_ne.2 h3
      by_cases h1 : n = 1
      · subst h1
        go_wp2
        go_ret
        exact ⟨rfl, rfl⟩
      · have e1 : (n == 1) = false := beq_eq_false_iff_ne.2 h1
        have hr : Hid (Cm.rank n = 4) := Lib.hid (by rw [Cm.rank, if_neg h2, if_neg h3, if_neg h1])
        go_wp2
        go_ret
        rw [hr.out]
        exact ⟨rfl, rfl⟩
theorem refrank_calls10 (n : Int) (w : World) : Calls Tryd.prog 26 #[.int .i64 n] w fun e w' => e = .returned (.int .i64 ((Cm.rank n : Int) - 1)) ∧ w' = w := by
  go_enter Tryd.func26, Tryd.ntmps26
  by_cases h2 : n = 2
  · subst h2
    go_wp2
    go_ret
    exact ⟨rfl, rfl⟩
  · have e2 : (n == 2) = false := beq_eq_false_iff_ne.2 h2
    by_cases h3 : n = 3
    · subst h3
      go_wp2
      go_ret
      exact ⟨rfl, rfl⟩
    · have e3 : (n == 3) = false := beq_eq_false_iff_ne.2 h3
      by_cases h1 : n = 1
      · subst h1
        go_wp2
        go_ret
        exact ⟨rfl, rfl⟩
      · have e1 : (n == 1) = false := beq_eq_false_iff_ne.2 h1
        have hr : Hid (Cm.rank n = 4) := Lib.hid (by rw [Cm.rank, if_neg h2, if_neg h3, if_neg h1])
        go_wp2
        go_ret
        rw [hr.out]
        exact ⟨rfl, rfl⟩
theorem isnan_calls (n : Int) (w : World) : Calls Tryd.prog 65 #[.int .i64 n] w fun e w' => e = .returned (.bool false) ∧ w' = w := by
  go_enter Tryd.func65, Tryd.ntmps65
  go_wp2
  go_ret
  simp
namespace Cm
def cmp (a b : Int) : Int := if a < b then -1 else if b < a then 1 else 0
def or2 (a b : Int) : Int := if a = 0 then b else a
end Cm
theorem compare_calls (a b : Int) (w : World) : Calls Tryd.prog 41 #[.int .i64 a, .int .i64 b] w fun e w' => e = .returned (.int .i64 (Cm.cmp a b)) ∧ w' = w := by
  have HN := Lib.hid (fun n x => isnan_calls n x)
  go_enter Tryd.func41, Tryd.ntmps41
  by_cases h : a < b
  · have hr : Hid (Cm.cmp a b = -1) := Lib.hid (by rw [Cm.cmp, if_pos h])
    go_wp2_with (go_at_call 65; refine (HN.out _ _).mono ?_; rintro e w9 ⟨rfl, rfl⟩)
    go_ret
    rw [hr.out]
    exact ⟨rfl, rfl⟩
  · by_cases h2 : b < a
    · have h2' : a > b := h2
      have hr : Hid (Cm.cmp a b = 1) := Lib.hid (by rw [Cm.cmp, if_neg h, if_pos h2])
      go_wp2_with (go_at_call 65; refine (HN.out _ _).mono ?_; rintro e w9 ⟨rfl, rfl⟩)
      go_ret
      rw [hr.out]
      exact ⟨rfl, rfl⟩
    · have h2' : ¬ a > b := h2
      have hr : Hid (Cm.cmp a b = 0) := Lib.hid (by rw [Cm.cmp, if_neg h, if_neg h2])
      go_wp2_with (go_at_call 65; refine (HN.out _ _).mono ?_; rintro e w9 ⟨rfl, rfl⟩)
      go_ret
      rw [hr.out]
      exact ⟨rfl, rfl⟩
theorem int_cell (w : World) (g j : Nat) (cs : Array Value) (t : TypeId) (fz : Nat × Nat) (h : w.heap[g]? = some (.cells cs t fz)) {v : Value} (hv : cs[j]? = some v) : w.cell? ⟨g, j, none⟩ = some v := (cell_of_row w g j _ _ _ h).trans hv
set_option maxRecDepth 100000 in
set_option maxHeartbeats 3200000 in
theorem or_calls (a b : Int) (g c : Nat) (w : World) (h : w.heap[g]? = some (.cells #[.int .i64 a, .int .i64 b] 3 (0, 0))) : Calls Tryd.prog 40 #[.slice (some ⟨g, 0, none⟩) 2 c] w fun e w' => e = .returned (.int .i64 (Cm.or2 a b)) ∧ Kept w.heap.size w.heap.size w w' := by
  have c0 : w.cell? ⟨g, 0, none⟩ = some (.int .i64 a) := int_cell w g 0 _ _ _ h rfl
  have c1 : w.cell? ⟨g, 1, none⟩ = some (.int .i64 b) := int_cell w g 1 _ _ _ h rfl
  have K0 := Lib.hid (Kept.refl w.heap.size w.heap.size w)
  clear h
  go_enter Tryd.func40, Tryd.ntmps40
  go_wp2_with fail
  go_loopw [8] (fun s8 wr => wr = w ∧ ∃ i : Int, s8 = .int .i64 i ∧ Hid (i = 0 ∨ (i = 1 ∧ a = 0) ∨ (i = 2 ∧ a = 0 ∧ b = 0))) (fun s8 _ => 2 - (RowKit.intOf s8).toNat)
  case atStart => exact ⟨rfl, 0, rfl, Lib.hid (.inl rfl)⟩
  case round =>
    obtain ⟨rfl, i, rfl, hi⟩ := hrel
    rcases hi.out with rfl | ⟨rfl, rfl⟩ | ⟨rfl, rfl, rfl⟩
    · clear hi
      by_cases ha : a = 0
      · subst ha
        go_wp2_with fail
        go_roundw
        case rel => exact ⟨by trivial, 1, by first | rfl | trivial, Lib.hid (by simp)⟩
        case measure => decide
      · have ha' : (a == 0) = false := beq_eq_false_iff_ne.2 ha
        have hr : Hid (Cm.or2 a b = a) := Lib.hid (by rw [Cm.or2, if_neg ha])
        clear ha
        go_wp2_with fail
        go_ret
        rw [hr.out]
        exact ⟨rfl, K0.out⟩
    · clear hi
      by_cases ha : b = 0
      · subst ha
        go_wp2_with fail
        go_roundw
        case rel => exact ⟨by trivial, 2, by first | rfl | trivial, Lib.hid (by simp)⟩
        case measure => decide
      · have ha' : (b == 0) = false := beq_eq_false_iff_ne.2 ha
        clear ha
        go_wp2_with fail
        go_ret
        exact ⟨rfl, K0.out⟩
    · clear hi
      go_wp2_with fail
      go_ret
      exact ⟨rfl, K0.out⟩
theorem build_ints2 (w : World) (x y : Int) : (Instr.buildSlice 97 2 #[(0, .int .i64 x), (1, .int .i64 y)]).run Tryd.prog w = .ok (.slice (some ⟨w.heap.size, 0, none⟩) 2 2) (w.alloc (.cells #[.int .i64 x, .int .i64 y] 3)) := by go_simp

end Go.Proofs.YtcjcomeakkjiiaaDoor

namespace Go.Proofs.YtcjcomeakkjiiaaDoor
open Go.RowKit Go.Lib

theorem kept_eq10 {w w' : World} (h : w' = w) : Kept w.heap.size w.heap.size w w' := by subst h; exact Kept.refl _ _ _
namespace Cm
def order (p q : Cg) : Int := or2 (cmp (rank p.kind) (rank q.kind)) (cmp p.name q.name)
theorem order_neg (p q : Cg) : decide (order p q < 0) = less p q := by
  unfold order or2 cmp less
  by_cases h : rank p.kind = rank q.kind
  · have h1 : ¬ ((rank p.kind : Int) < (rank q.kind : Int)) := by omega
    have h2 : ¬ ((rank q.kind : Int) < (rank p.kind : Int)) := by omega
    rw [if_pos h, if_neg h1, if_neg h2, if_pos rfl]
    by_cases h3 : p.name < q.name
    · rw [if_pos h3, decide_eq_true h3]; rfl
    · rw [if_neg h3, decide_eq_false h3]
      split <;> rfl
  · rw [if_neg h]
    by_cases h3 : rank p.kind < rank q.kind
    · rw [if_pos (by omega : (rank p.kind : Int) < (rank q.kind : Int)), decide_eq_true h3]; rfl
    · rw [if_neg (by omega : ¬ (rank p.kind : Int) < (rank q.kind : Int)), if_pos (by omega : (rank q.kind : Int) < (rank p.kind : Int)), decide_eq_false h3]; rfl
end Cm
/-- Facts of a row that is kept. -/
theorem row_kept {w x : World} {b : Nat} {o : Obj} (h : w.heap[b]? = some o) (k : Kept w.heap.size w.heap.size w x) : x.heap[b]? = some o := (k.block b (lt_of_block h) (Nat.ne_of_lt (lt_of_block h))).trans h

set_option maxRecDepth 100000 in
set_option maxHeartbeats 3200000 in
theorem order_calls (p q : Cg) (w : World) : Calls Tryd.prog 25 #[.agg p.chg.toArray, .agg q.chg.toArray] w fun e w' => e = .returned (.int .i64 (Cm.order p q)) ∧ Kept w.heap.size w.heap.size w w' := by
  have HR := Lib.hid (fun n x => (rank_calls10 n x).mono (fun e w' h => show e = .returned (.int .i64 (Cm.rank n : Int)) ∧ Kept x.heap.size x.heap.size x w' from ⟨h.1, kept_eq10 h.2⟩))
  have HC := Lib.hid (fun a b x => (compare_calls a b x).mono (fun e w' h => show e = .returned (.int .i64 (Cm.cmp a b)) ∧ Kept x.heap.size x.heap.size x w' from ⟨h.1, kept_eq10 h.2⟩))
  have HFIN := Lib.hid (show Cm.or2 (Cm.cmp (Cm.rank p.kind) (Cm.rank q.kind)) (Cm.cmp p.name q.name) = Cm.order p q from rfl)
  have R1 : ((w.alloc (.cells p.chg.toArray 25)).alloc (.cells q.chg.toArray 25)).heap[w.heap.size]? = some (.cells p.chg.toArray 25 (0, 0)) := heap_alloc2_old w _ _
  have R2 : ((w.alloc (.cells p.chg.toArray 25)).alloc (.cells q.chg.toArray 25)).heap[w.heap.size + 1]? = some (.cells q.chg.toArray 25 (0, 0)) := heap_alloc2_last w _ _
  have k1 : Kept w.heap.size w.heap.size w ((w.alloc (.cells p.chg.toArray 25)).alloc (.cells q.chg.toArray 25)) := ((Kept.refl _ _ _).alloc (Nat.le_refl _) _).alloc (by simp) _
  have KP := Lib.hid (fun (x : World) (h : x.heap[w.heap.size]? = some (.cells p.chg.toArray 25 (0, 0))) => load_int10 (chg_kind (p := p) (row_range0 h)))
  have NP := Lib.hid (fun (x : World) (h : x.heap[w.heap.size]? = some (.cells p.chg.toArray 25 (0, 0))) => load_int10 (chg_name (p := p) (row_range0 h)))
  have KQ := Lib.hid (fun (x : World) (h : x.heap[w.heap.size + 1]? = some (.cells q.chg.toArray 25 (0, 0))) => load_int10 (chg_kind (p := q) (row_range0 h)))
  have NQ := Lib.hid (fun (x : World) (h : x.heap[w.heap.size + 1]? = some (.cells q.chg.toArray 25 (0, 0))) => load_int10 (chg_name (p := q) (row_range0 h)))
  generalize p.chg.toArray = cp at R1 R2 k1 KP NP ⊢
  generalize q.chg.toArray = cq at R1 R2 k1 KQ NQ ⊢
  go_enter Tryd.func25, Tryd.ntmps25
  go_upto_region 1 with fail
  generalize (w.alloc (.cells cp 25)).alloc (.cells cq 25) = w1 at R1 R2 k1 ⊢
  obtain ⟨ab, hab⟩ : ∃ ab, ab = w.heap.size := ⟨_, rfl⟩
  rw [← hab] at R1 R2 KP NP KQ NQ ⊢
  have K1 := Lib.hid k1
  have H1 := Lib.hid (fun (x : World) (k : Kept w1.heap.size w1.heap.size w1 x) => KP.out x (row_kept R1 k))
  have H2 := Lib.hid (fun (x : World) (k : Kept w1.heap.size w1.heap.size w1 x) => NP.out x (row_kept R1 k))
  have H3 := Lib.hid (fun (x : World) (k : Kept w1.heap.size w1.heap.size w1 x) => KQ.out x (row_kept R2 k))
  have H4 := Lib.hid (fun (x : World) (k : Kept w1.heap.size w1.heap.size w1 x) => NQ.out x (row_kept R2 k))
  have KD : Kept w1.heap.size w1.heap.size w1 w1.drew := (Kept.refl _ _ _).drew
  clear hab k1 R1 R2 KP NP KQ NQ
  refine wp_region_noPanic ?_
  refine wp_region_held_drew (S := fun w' => Kept w1.heap.size w1.heap.size w1 w') (by kernel_rfl) ((Kept.refl _ _ _).drew) (fun hH => ?_)
  refine wpAnyH_take_ex (i := 0) 5 rfl rfl (by kernel_rfl) (by kernel_rfl) (by kernel_rfl) (fun _ _ _ _ h => h) (by kernel_rfl) hH ?_
  apply Exists.intro
  apply And.intro
  · intro w9 _
    go_simp
    first | done | rfl
  simp only [List.setIfInBounds_toArray, List.set_cons_zero, List.set_cons_succ]
  refine wpAnyH_take_at (i := 1) 6 (.int .i64 p.kind) rfl rfl (by kernel_rfl) (by kernel_rfl) (by kernel_rfl) (fun _ _ _ h => h) (yieldsIf_load_known (by kernel_rfl) 3 _ rfl (ab) (0) rfl (.int .i64 p.kind) (fun w' hw' => H1.out w' hw')) hH ?_
  simp only [List.setIfInBounds_toArray, List.set_cons_zero, List.set_cons_succ]
  refine wpAnyH_take_ex (i := 3) 8 rfl rfl (by kernel_rfl) (by kernel_rfl) (by kernel_rfl) (fun _ _ _ _ h => h) (by kernel_rfl) hH ?_
  apply Exists.intro
  apply And.intro
  · intro w9 _
    go_simp
    first | done | rfl
  simp only [List.setIfInBounds_toArray, List.set_cons_zero, List.set_cons_succ]
  refine wpAnyH_take_at (i := 4) 9 (.int .i64 q.kind) rfl rfl (by kernel_rfl) (by kernel_rfl) (by kernel_rfl) (fun _ _ _ h => h) (yieldsIf_load_known (by kernel_rfl) 3 _ rfl (ab + 1) (0) rfl (.int .i64 q.kind) (fun w' hw' => H3.out w' hw')) hH ?_
  simp only [List.setIfInBounds_toArray, List.set_cons_zero, List.set_cons_succ]
  refine wpAnyH_take_ex (i := 7) 12 rfl rfl (by kernel_rfl) (by kernel_rfl) (by kernel_rfl) (fun _ _ _ _ h => h) (by kernel_rfl) hH ?_
  apply Exists.intro
  apply And.intro
  · intro w9 _
    go_simp
    first | done | rfl
  simp only [List.setIfInBounds_toArray, List.set_cons_zero, List.set_cons_succ]
  refine wpAnyH_take_at (i := 8) 13 (.int .i64 p.name) rfl rfl (by kernel_rfl) (by kernel_rfl) (by kernel_rfl) (fun _ _ _ h => h) (yieldsIf_load_known (by kernel_rfl) 3 _ rfl (ab) (0 + 1) rfl (.int .i64 p.name) (fun w' hw' => H2.out w' hw')) hH ?_
  simp only [List.setIfInBounds_toArray, List.set_cons_zero, List.set_cons_succ]
  refine wpAnyH_take_ex (i := 9) 14 rfl rfl (by kernel_rfl) (by kernel_rfl) (by kernel_rfl) (fun _ _ _ _ h => h) (by kernel_rfl) hH ?_
  apply Exists.intro
  apply And.intro
  · intro w9 _
    go_simp
    first | done | rfl
  simp only [List.setIfInBounds_toArray, List.set_cons_zero, List.set_cons_succ]
  refine wpAnyH_take_at (i := 10) 15 (.int .i64 q.name) rfl rfl (by kernel_rfl) (by kernel_rfl) (by kernel_rfl) (fun _ _ _ h => h) (yieldsIf_load_known (by kernel_rfl) 3 _ rfl (ab + 1) (0 + 1) rfl (.int .i64 q.name) (fun w' hw' => H4.out w' hw')) hH ?_
  simp only [List.setIfInBounds_toArray, List.set_cons_zero, List.set_cons_succ]
  refine wpAnyH_ready (rs := [2]) (by kernel_rfl) (by simp) ?_
  refine AllReadyH.cons rfl (fun K hK => ?_) AllReadyH.nil
  rw [if_pos (by rfl)]
  go_simp
  go_wp2_with (go_at_call 42; refine (HR.out _ _).mono ?_; rintro e w2 ⟨rfl, kw2⟩)
  have K2 : Kept w1.heap.size w1.heap.size w1 w2 := KD.trans (kw2.mono KD.size (fun i hi _ => Nat.ne_of_lt (Nat.lt_of_lt_of_le hi KD.size)))
  refine hK.out _ _ (K2) (fun hH => ?_)
  clear hK K
  refine wpAnyH_ready (rs := [5]) (by kernel_rfl) (by simp) ?_
  refine AllReadyH.cons rfl (fun K hK => ?_) AllReadyH.nil
  rw [if_pos (by rfl)]
  go_simp
  go_wp2_with (go_at_call 42; refine (HR.out _ _).mono ?_; rintro e w3 ⟨rfl, kw3⟩)
  have K3 : Kept w1.heap.size w1.heap.size w1 w3 := K2.trans (kw3.mono K2.size (fun i hi _ => Nat.ne_of_lt (Nat.lt_of_lt_of_le hi K2.size)))
  refine hK.out _ _ (K3) (fun hH => ?_)
  clear hK K
  refine wpAnyH_ready (rs := [6]) (by kernel_rfl) (by simp) ?_
  refine AllReadyH.cons rfl (fun K hK => ?_) AllReadyH.nil
  rw [if_pos (by rfl)]
  go_simp
  go_wp2_with (go_at_call 41; refine (HC.out _ _ _).mono ?_; rintro e w4 ⟨rfl, kw4⟩)
  have K4 : Kept w1.heap.size w1.heap.size w1 w4 := K3.trans (kw4.mono K3.size (fun i hi _ => Nat.ne_of_lt (Nat.lt_of_lt_of_le hi K3.size)))
  refine hK.out _ _ (K4) (fun hH => ?_)
  clear hK K
  refine wpAnyH_ready (rs := [11]) (by kernel_rfl) (by simp) ?_
  refine AllReadyH.cons rfl (fun K hK => ?_) AllReadyH.nil
  rw [if_pos (by rfl)]
  go_simp
  go_wp2_with (go_at_call 41; refine (HC.out _ _ _).mono ?_; rintro e w5 ⟨rfl, kw5⟩)
  have K5 : Kept w1.heap.size w1.heap.size w1 w5 := K4.trans (kw5.mono K4.size (fun i hi _ => Nat.ne_of_lt (Nat.lt_of_lt_of_le hi K4.size)))
  refine hK.out _ _ (K5) (fun hH => ?_)
  clear hK K
  refine wpAnyH_ready (rs := [12]) (by kernel_rfl) (by simp) ?_
  refine AllReadyH.cons rfl (fun K hK => ?_) AllReadyH.nil
  rw [if_pos (by rfl)]
  go_simp
  have KB : Kept w1.heap.size w1.heap.size w1 (w5.alloc (.cells #[.int .i64 (Cm.cmp (Cm.rank p.kind) (Cm.rank q.kind)), .int .i64 (Cm.cmp p.name q.name)] 3)) := K5.alloc K5.size _
  have rb := heap_new w5 (.cells #[.int .i64 (Cm.cmp (Cm.rank p.kind) (Cm.rank q.kind)), .int .i64 (Cm.cmp p.name q.name)] 3)
  refine hK.out _ _ KB (fun hH => ?_)
  clear hK K
  generalize w5.alloc (.cells #[.int .i64 (Cm.cmp (Cm.rank p.kind) (Cm.rank q.kind)), .int .i64 (Cm.cmp p.name q.name)] 3) = w6 at KB rb hH ⊢
  refine wpAnyH_ready (rs := [13]) (by kernel_rfl) (by simp) ?_
  refine AllReadyH.cons rfl (fun K hK => ?_) AllReadyH.nil
  rw [if_pos (by rfl)]
  go_simp
  go_wp2_with (go_at_call 40; refine (or_calls _ _ _ _ _ rb).mono ?_; rintro e w7 ⟨rfl, kw7⟩)
  have K7 : Kept w1.heap.size w1.heap.size w1 w7 := KB.trans (kw7.mono KB.size (fun i hi _ => Nat.ne_of_lt (Nat.lt_of_lt_of_le hi KB.size)))
  refine hK.out _ _ (K7) (fun hH => ?_)
  clear hK K
  refine wpAnyH_take_ex (i := 14) 4 rfl rfl (by kernel_rfl) (by kernel_rfl) (by kernel_rfl) (fun _ _ _ _ h => h) (by kernel_rfl) hH ?_
  apply Exists.intro
  apply And.intro
  · intro w9 _
    go_simp
    first | done | rfl
  simp only [List.setIfInBounds_toArray, List.set_cons_zero, List.set_cons_succ]
  refine wpAnyH_done (by kernel_rfl) ?_ _
  refine NoPanic.normal ?_
  go_wp2
  go_ret
  rw [HFIN.out]
  exact ⟨rfl, K1.out.onto K7⟩

set_option maxRecDepth 100000 in
set_option maxHeartbeats 3200000 in
theorem less_calls10 (p q : Cg) (hp : p.Ok) (hq : q.Ok) (w : World) : Calls Tryd.prog 11 #[.agg p.cells.toArray, .agg q.cells.toArray] w fun e w' => e = .returned (.bool (Cm.less p q)) ∧ Kept w.heap.size w.heap.size w w' := by
  have HO := Lib.hid (fun x => order_calls p q x)
  have HFIN := Lib.hid (Cm.order_neg p q)
  have R1 : ((w.alloc (.cells p.cells.toArray 27)).alloc (.cells q.cells.toArray 27)).heap[w.heap.size]? = some (.cells p.cells.toArray 27 (0, 0)) := heap_alloc2_old w _ _
  have R2 : ((w.alloc (.cells p.cells.toArray 27)).alloc (.cells q.cells.toArray 27)).heap[w.heap.size + 1]? = some (.cells q.cells.toArray 27 (0, 0)) := heap_alloc2_last w _ _
  have k1 : Kept w.heap.size w.heap.size w ((w.alloc (.cells p.cells.toArray 27)).alloc (.cells q.cells.toArray 27)) := ((Kept.refl _ _ _).alloc (Nat.le_refl _) _).alloc (by simp) _
  have HP := Lib.hid (load_chg (cg_chg R1 hp) hp)
  have HQ := Lib.hid (load_chg (cg_chg R2 hq) hq)
  generalize p.chg.toArray = cp at HP HO
  generalize q.chg.toArray = cq at HQ HO
  generalize p.cells.toArray = dp at k1 HP HQ ⊢
  generalize q.cells.toArray = dq at k1 HP HQ ⊢
  clear R1 R2
  go_enter Tryd.func11, Tryd.ntmps11
  go_upto_region 1 with fail
  generalize (w.alloc (.cells dp 27)).alloc (.cells dq 27) = w1 at HP HQ k1 ⊢
  obtain ⟨ab, hab⟩ : ∃ ab, ab = w.heap.size := ⟨_, rfl⟩
  rw [← hab] at HP HQ ⊢
  have K1 := Lib.hid k1
  clear hab k1
  refine wp_region_lit ?_
  refine @BigFrame.wpList_want _ _ _ _ _ _ _ ?hw70001 ?_
  case hw70001 => kernel_rfl
  intro K hK
  go_simp
  refine hK _ _ ?_
  clear hK K
  refine @wpList_load_known _ _ _ _ _ _ _ ?hw70002 25 (.tmp 5) rfl (ab) (35) rfl (.agg cp) (HP.out) ?_
  case hw70002 => kernel_rfl
  simp only [Act.put, List.setIfInBounds_toArray, List.set_cons_zero, List.set_cons_succ]
  refine @BigFrame.wpList_want _ _ _ _ _ _ _ ?hw70003 ?_
  case hw70003 => kernel_rfl
  intro K hK
  go_simp
  refine hK _ _ ?_
  clear hK K
  refine @wpList_load_known _ _ _ _ _ _ _ ?hw70004 25 (.tmp 7) rfl (ab + 1) (35) rfl (.agg cq) (HQ.out) ?_
  case hw70004 => kernel_rfl
  simp only [Act.put, List.setIfInBounds_toArray, List.set_cons_zero, List.set_cons_succ]
  refine @BigFrame.wpList_want _ _ _ _ _ _ _ ?hw70005 ?_
  case hw70005 => kernel_rfl
  intro K hK
  go_simp
  go_at_call 25
  refine (HO.out _).mono ?_
  rintro e w2 ⟨rfl, kw2⟩
  refine hK _ _ ?_
  clear hK K
  refine @BigFrame.wpList_want _ _ _ _ _ _ _ ?hw70006 ?_
  case hw70006 => kernel_rfl
  intro K hK
  go_simp
  refine hK _ _ ?_
  clear hK K
  refine @BigFrame.wpList_want _ _ _ _ _ _ _ ?hw70007 ?_
  case hw70007 => kernel_rfl
  intro K hK
  go_simp
  refine hK _ _ ?_
  clear hK K
  go_wp2
  go_ret
  rw [HFIN.out]
  exact ⟨rfl, K1.out.onto kw2⟩

end Go.Proofs.YtcjcomeakkjiiaaDoor

namespace Go.Proofs.YtcjcomeakkjiiaaDoor
open Go.RowKit Go.Lib

theorem isAgg_int10 (w : World) : (isAgg 3).run Tryd.prog w = .ok false w := by
  unfold isAgg
  simp only [Sem.run_bind, run_underlying Tryd.underlying3, Result.andThen_ok]
  rfl
theorem isAgg_hash10 (w : World) : (isAgg 23).run Tryd.prog w = .ok true w := by
  unfold isAgg
  simp only [Sem.run_bind, run_underlying Tryd.underlying23, Result.andThen_ok]
  rfl
theorem isAgg_chg (w : World) : (isAgg 25).run Tryd.prog w = .ok true w := by
  unfold isAgg
  simp only [Sem.run_bind, run_underlying Tryd.underlying25, Result.andThen_ok]
  rfl
theorem part_int10 (w : World) (cs : Array Value) (o : Nat) (v : Value) (h : cs[o]? = some v) : (part 3 cs o).run Tryd.prog w = .ok v w := by
  simp only [part, Sem.run_bind, isAgg_int10, Result.andThen_ok, Bool.false_eq_true, if_false, h]
  rfl
theorem part_hash10 (w : World) (cs : Array Value) (o : Nat) (l : List UInt8) (h : cs.extract o (o + 32) = (bcells l).toArray) : (part 23 cs o).run Tryd.prog w = .ok (.agg (bcells l).toArray) w := by
  simp only [part, Sem.run_bind, isAgg_hash10, Result.andThen_ok, if_true, Tryd.sizeOf23, h]
  rfl
theorem part_chg (w : World) (cs : Array Value) (o : Nat) (p : Cg) (h : cs.extract o (o + 34) = p.chg.toArray) : (part 25 cs o).run Tryd.prog w = .ok (.agg p.chg.toArray) w := by
  simp only [part, Sem.run_bind, isAgg_chg, Result.andThen_ok, if_true, Tryd.sizeOf25, h]
  rfl
theorem extract_part (A B C : List Value) (cs : List Value) (hcs : cs = A ++ (B ++ C)) (o n : Nat) (ho : o = A.length) (hn : n = B.length) : cs.toArray.extract o (o + n) = B.toArray := by
  subst hcs ho hn
  apply Array.ext'
  simp
section
variable {p : Cg} (h : p.Ok)
include h
theorem Cg.part_epoch : p.cells.toArray.extract 0 (0 + 32) = (bcells p.epoch).toArray := extract_part [] _ _ _ rfl 0 32 rfl (by rw [bcells_length, h.1])
theorem Cg.part_chg : p.cells.toArray.extract 35 (35 + 34) = p.chg.toArray := extract_part (bcells p.epoch ++ p.mid) _ (bcells p.sign) _ (by rw [Cg.cells, List.append_assoc]) 35 34 (by rw [List.length_append, bcells_length, h.1]; rfl) (Cg.chg_length h).symm
theorem Cg.part_sign : p.cells.toArray.extract 69 (69 + 32) = (bcells p.sign).toArray := extract_part (bcells p.epoch ++ (p.mid ++ p.chg)) _ [] _ (by rw [Cg.cells, List.append_assoc, List.append_assoc, List.append_nil]) 69 32 (by rw [List.length_append, List.length_append, bcells_length, h.1, Cg.chg_length h]; rfl) (by rw [bcells_length, h.2.2])
theorem Cg.part_pub : p.chg.toArray.extract 2 (2 + 32) = (bcells p.pub).toArray := extract_part [.int .i64 p.kind, .int .i64 p.name] _ [] _ (by simp [Cg.chg]) 2 32 rfl (by rw [bcells_length, h.2.1])
theorem Cg.at_mid (j : Nat) (v : Value) (hv : p.mid[j]? = some v) : p.cells.toArray[32 + j]? = some v := by
  have hj : j < p.mid.length := by
    rcases Nat.lt_or_ge j p.mid.length with h | h
    · exact h
    · rw [List.getElem?_eq_none h] at hv; cases hv
  rw [List.getElem?_toArray, Cg.cells, List.getElem?_append_right (by rw [bcells_length, h.1]; omega), bcells_length, h.1, Nat.add_sub_cancel_left, List.getElem?_append_left hj]
  exact hv
end
set_option maxRecDepth 100000 in
theorem chg_equalIn (w : World) (p : Cg) (h : p.Ok) : (Op.equalIn 9999 25 (.agg p.chg.toArray) (.agg p.chg.toArray)).run Tryd.prog w = .ok true w := by
  have hs : Tryd.prog.stoodInHeld 25 = false := by kernel_rfl
  have e0 : ∀ n w, (Op.equalIn 9998 3 (.int .i64 n) (.int .i64 n)).run Tryd.prog w = .ok true w := fun n w => by
    have := run_equalIn_int (P := Tryd.prog) w 9997 3 .i64 .i64 n n Tryd.underlying3
    rwa [beq_self_eq_true] at this
  have eh : ∀ x : List UInt8, x.length = 32 → ∀ w, (Op.equalIn 9998 23 (.agg (bcells x).toArray) (.agg (bcells x).toArray)).run Tryd.prog w = .ok true w := fun x hx w => by
    have := run_equalIn_bytes (P := Tryd.prog) w 9996 23 5 32 Tryd.underlying23 Tryd.underlying5 (fun w => Tryd.sizeOf5 w) x x hx hx
    rwa [beq_self_eq_true] at this
  have p0 := fun w => part_int10 w p.chg.toArray 0 (.int .i64 p.kind) (by simp [Cg.chg])
  have p1 := fun w => part_int10 w p.chg.toArray 1 (.int .i64 p.name) (by simp [Cg.chg])
  have p2 := fun w => part_hash10 w _ _ _ (Cg.part_pub h)
  have e2 := eh _ h.2.1
  rw [Op.equalIn]
  simp only [Sem.run_bind, run_underlying Tryd.underlying25, Result.andThen_ok, run_program, hs, Bool.false_eq_true, if_false]
  simp only [List.forIn_toArray, List.forIn_cons, List.forIn_nil, Sem.run_bind, ne_eq, String.reduceEq, not_false_eq_true, if_true]
  simp [p0, p1, p2, e0, e2]
set_option maxRecDepth 100000 in
theorem cg_equalIn (w : World) (p : Cg) (h : p.Ok) : (Op.equalIn 10000 27 (.agg p.cells.toArray) (.agg p.cells.toArray)).run Tryd.prog w = .ok true w := by
  have hs : Tryd.prog.stoodInHeld 27 = false := by kernel_rfl
  have e0 : ∀ n w, (Op.equalIn 9999 3 (.int .i64 n) (.int .i64 n)).run Tryd.prog w = .ok true w := fun n w => by
    have := run_equalIn_int (P := Tryd.prog) w 9998 3 .i64 .i64 n n Tryd.underlying3
    rwa [beq_self_eq_true] at this
  have eh : ∀ x : List UInt8, x.length = 32 → ∀ w, (Op.equalIn 9999 23 (.agg (bcells x).toArray) (.agg (bcells x).toArray)).run Tryd.prog w = .ok true w := fun x hx w => by
    have := run_equalIn_bytes (P := Tryd.prog) w 9997 23 5 32 Tryd.underlying23 Tryd.underlying5 (fun w => Tryd.sizeOf5 w) x x hx hx
    rwa [beq_self_eq_true] at this
  have p0 := fun w => part_hash10 w _ _ _ (Cg.part_epoch h)
  have p1 := fun w => part_int10 w p.cells.toArray 32 (.int .i64 p.depth) (Cg.at_mid h 0 _ rfl)
  have p2 := fun w => part_int10 w p.cells.toArray 33 (.int .i64 p.author) (Cg.at_mid h 1 _ rfl)
  have p3 := fun w => part_int10 w p.cells.toArray 34 (.int .i64 p.seq) (Cg.at_mid h 2 _ rfl)
  have p4 := fun w => part_chg w _ _ _ (Cg.part_chg h)
  have p5 := fun w => part_hash10 w _ _ _ (Cg.part_sign h)
  have e1 := eh _ h.1
  have e2 := eh _ h.2.2
  have ec := fun w => chg_equalIn w p h
  rw [Op.equalIn]
  simp only [Sem.run_bind, run_underlying Tryd.underlying27, Result.andThen_ok, run_program, hs, Bool.false_eq_true, if_false]
  simp only [List.forIn_toArray, List.forIn_cons, List.forIn_nil, Sem.run_bind, ne_eq, String.reduceEq, not_false_eq_true, if_true]
  simp [p0, p1, p2, p3, p4, p5, e0, e1, e2, ec]
theorem cgGuard : Tryd.prog.eqGuardType Tryd.prog.depth 27 = false := by kernel_rfl
section
variable {P : Program} {ops : Array Oper} {a : Act} {S : World → Prop} {rest : List Oper} {o : Oper} {w : World} {Q : Exit → Act → World → Prop}
theorem yieldsIf_eql10 {op : Oper} (hw : Region.wanted op (yielded ops a.tmps) = true) (t t2 : TypeId) (x y : Operand) (ho : op.op = .binOp .eql t x y t2) (A B : Array Value) (hx : a.eval x = .agg A) (hy : a.eval y = .agg B) (hg : P.eqGuardType P.depth t = false) (r : Bool) (hr : ∀ w, (Op.equalIn 10000 t (.agg A) (.agg B)).run P w = .ok r w) : YieldsIf P ops S op (.bool r) a :=
  .inl ⟨hw, fun w _ => by
    unfold execOp
    simp only [ho, hx, hy, Sem.run_bind, run_eqGuard_agg _ _ _ _ _ _ _ hg, run_eql_struct, hr, Result.andThen_ok, Sem.run_pure]⟩
theorem wpL_eql10 (hw : Region.wanted o (yielded ops a.tmps) = true) (t t2 : TypeId) (x y : Operand) (ho : o.op = .binOp .eql t x y t2) (A B : Array Value) (hx : a.eval x = .agg A) (hy : a.eval y = .agg B) (hg : P.eqGuardType P.depth t = false) (r : Bool) (hr : (Op.equalIn 10000 t (.agg A) (.agg B)).run P w = .ok r w) (hk : wpList P ops Q rest (a.put o.dst (.bool r)) w) : wpList P ops Q (o :: rest) a w := by
  refine wpList_step fun K hK => ?_
  rw [if_pos hw]
  unfold Oper.wp execOp
  simp only [ho, hx, hy, Sem.run_bind, run_eqGuard_agg _ _ _ _ _ _ _ hg, run_eql_struct, hr, Result.andThen_ok, Sem.run_pure]
  exact hK _ _ hk
end

end Go.Proofs.YtcjcomeakkjiiaaDoor

namespace Go.Proofs.YtcjcomeakkjiiaaDoor
open Go.RowKit Go.Lib

set_option maxRecDepth 100000 in
set_option maxHeartbeats 3200000 in
theorem refless_calls10 (p q : Cg) (hp : p.Ok) (hq : q.Ok) (w : World) : Calls Tryd.prog 12 #[.agg p.cells.toArray, .agg q.cells.toArray] w fun e w' => e = .returned (.bool (Cm.less p q)) ∧ Kept w.heap.size w.heap.size w w' := by
  have HR0 := fun n x => (refrank_calls10 n x).mono (fun e w' h => show e = .returned (.int .i64 ((Cm.rank n : Int) - 1)) ∧ Kept x.heap.size x.heap.size x w' from ⟨h.1, kept_eq10 h.2⟩)
  have HP := Lib.hid (HR0 p.kind)
  have HQ := Lib.hid (HR0 q.kind)
  have hE : ((Cm.rank p.kind : Int) - 1 = (Cm.rank q.kind : Int) - 1) → decide (p.name < q.name) = Cm.less p q := fun h => by
    rw [Cm.less, if_pos (by omega)]
  have hN : ((Cm.rank p.kind : Int) - 1 ≠ (Cm.rank q.kind : Int) - 1) → decide ((Cm.rank p.kind : Int) - 1 < (Cm.rank q.kind : Int) - 1) = Cm.less p q := fun h => by
    rw [Cm.less, if_neg (by omega)]
    by_cases h2 : Cm.rank p.kind < Cm.rank q.kind
    · rw [decide_eq_true h2, decide_eq_true (by omega)]
    · rw [decide_eq_false h2, decide_eq_false (by omega)]
  obtain ⟨ra, hra⟩ : ∃ ra : Int, ra = (Cm.rank p.kind : Int) - 1 := ⟨_, rfl⟩
  obtain ⟨rb, hrb⟩ : ∃ rb : Int, rb = (Cm.rank q.kind : Int) - 1 := ⟨_, rfl⟩
  rw [← hra] at HP hE hN
  rw [← hrb] at HQ hE hN
  have HE := Lib.hid hE
  have HN := Lib.hid hN
  have R1 : ((w.alloc (.cells p.cells.toArray 27)).alloc (.cells q.cells.toArray 27)).heap[w.heap.size]? = some (.cells p.cells.toArray 27 (0, 0)) := heap_alloc2_old w _ _
  have R2 : ((w.alloc (.cells p.cells.toArray 27)).alloc (.cells q.cells.toArray 27)).heap[w.heap.size + 1]? = some (.cells q.cells.toArray 27 (0, 0)) := heap_alloc2_last w _ _
  have k1 : Kept w.heap.size w.heap.size w ((w.alloc (.cells p.cells.toArray 27)).alloc (.cells q.cells.toArray 27)) := ((Kept.refl _ _ _).alloc (Nat.le_refl _) _).alloc (by simp) _
  have KP := Lib.hid (fun (x : World) (h : x.heap[w.heap.size]? = some (.cells p.cells.toArray 27 (0, 0))) => load_int10 (chg_kind (cg_chg h hp)))
  have NP := Lib.hid (fun (x : World) (h : x.heap[w.heap.size]? = some (.cells p.cells.toArray 27 (0, 0))) => load_int10 (chg_name (cg_chg h hp)))
  have KQ := Lib.hid (fun (x : World) (h : x.heap[w.heap.size + 1]? = some (.cells q.cells.toArray 27 (0, 0))) => load_int10 (chg_kind (cg_chg h hq)))
  have NQ := Lib.hid (fun (x : World) (h : x.heap[w.heap.size + 1]? = some (.cells q.cells.toArray 27 (0, 0))) => load_int10 (chg_name (cg_chg h hq)))
  generalize p.cells.toArray = cp at R1 R2 k1 KP NP ⊢
  generalize q.cells.toArray = cq at R1 R2 k1 KQ NQ ⊢
  clear hra hrb hE hN hp hq HR0
  go_enter Tryd.func12, Tryd.ntmps12
  go_upto_region 1 with fail
  generalize (w.alloc (.cells cp 27)).alloc (.cells cq 27) = w1 at R1 R2 k1 ⊢
  obtain ⟨ab, hab⟩ : ∃ ab, ab = w.heap.size := ⟨_, rfl⟩
  rw [← hab] at R1 R2 KP NP KQ NQ ⊢
  have K1 := Lib.hid k1
  have H1 := Lib.hid (fun (x : World) (k : Kept w1.heap.size w1.heap.size w1 x) => KP.out x (row_kept R1 k))
  have H2 := Lib.hid (fun (x : World) (k : Kept w1.heap.size w1.heap.size w1 x) => NP.out x (row_kept R1 k))
  have H3 := Lib.hid (fun (x : World) (k : Kept w1.heap.size w1.heap.size w1 x) => KQ.out x (row_kept R2 k))
  have H4 := Lib.hid (fun (x : World) (k : Kept w1.heap.size w1.heap.size w1 x) => NQ.out x (row_kept R2 k))
  have KD : Kept w1.heap.size w1.heap.size w1 w1.drew := (Kept.refl _ _ _).drew
  clear hab k1 R1 R2 KP NP KQ NQ
  by_cases he : ra = rb
  · have HFIN := Lib.hid (HE.out he)
    subst he
    clear HE HN
    refine wp_region_noPanic ?_
    refine wp_region_held_drew (S := fun w' => Kept w1.heap.size w1.heap.size w1 w') (by kernel_rfl) ((Kept.refl _ _ _).drew) (fun hH => ?_)
    refine wpAnyH_take_ex (i := 0) 5 rfl rfl (by kernel_rfl) (by kernel_rfl) (by kernel_rfl) (fun _ _ _ _ h => h) (by kernel_rfl) hH ?_
    apply Exists.intro
    apply And.intro
    · intro w9 _
      go_simp
      first | done | rfl
    simp only [List.setIfInBounds_toArray, List.set_cons_zero, List.set_cons_succ]
    refine wpAnyH_take_ex (i := 1) 6 rfl rfl (by kernel_rfl) (by kernel_rfl) (by kernel_rfl) (fun _ _ _ _ h => h) (by kernel_rfl) hH ?_
    apply Exists.intro
    apply And.intro
    · intro w9 _
      go_simp
      first | done | rfl
    simp only [List.setIfInBounds_toArray, List.set_cons_zero, List.set_cons_succ]
    refine wpAnyH_take_at (i := 2) 7 (.int .i64 p.kind) rfl rfl (by kernel_rfl) (by kernel_rfl) (by kernel_rfl) (fun _ _ _ h => h) (yieldsIf_load_known (by kernel_rfl) 3 _ rfl (ab) (35) rfl (.int .i64 p.kind) (fun w' hw' => H1.out w' hw')) hH ?_
    simp only [List.setIfInBounds_toArray, List.set_cons_zero, List.set_cons_succ]
    refine wpAnyH_take_ex (i := 4) 9 rfl rfl (by kernel_rfl) (by kernel_rfl) (by kernel_rfl) (fun _ _ _ _ h => h) (by kernel_rfl) hH ?_
    apply Exists.intro
    apply And.intro
    · intro w9 _
      go_simp
      first | done | rfl
    simp only [List.setIfInBounds_toArray, List.set_cons_zero, List.set_cons_succ]
    refine wpAnyH_take_ex (i := 5) 10 rfl rfl (by kernel_rfl) (by kernel_rfl) (by kernel_rfl) (fun _ _ _ _ h => h) (by kernel_rfl) hH ?_
    apply Exists.intro
    apply And.intro
    · intro w9 _
      go_simp
      first | done | rfl
    simp only [List.setIfInBounds_toArray, List.set_cons_zero, List.set_cons_succ]
    refine wpAnyH_take_at (i := 6) 11 (.int .i64 q.kind) rfl rfl (by kernel_rfl) (by kernel_rfl) (by kernel_rfl) (fun _ _ _ h => h) (yieldsIf_load_known (by kernel_rfl) 3 _ rfl (ab + 1) (35) rfl (.int .i64 q.kind) (fun w' hw' => H3.out w' hw')) hH ?_
    simp only [List.setIfInBounds_toArray, List.set_cons_zero, List.set_cons_succ]
    refine wpAnyH_ready (rs := [3]) (by kernel_rfl) (by simp) ?_
    refine AllReadyH.cons rfl (fun K hK => ?_) AllReadyH.nil
    rw [if_pos (by rfl)]
    go_simp
    go_wp2_with (go_at_call 26; refine (HP.out _).mono ?_; rintro e w2 ⟨rfl, kw2⟩)
    have K2 : Kept w1.heap.size w1.heap.size w1 w2 := KD.trans (kw2.mono KD.size (fun i hi _ => Nat.ne_of_lt (Nat.lt_of_lt_of_le hi KD.size)))
    refine hK.out _ _ (K2) (fun hH => ?_)
    clear hK K
    refine wpAnyH_ready (rs := [7]) (by kernel_rfl) (by simp) ?_
    refine AllReadyH.cons rfl (fun K hK => ?_) AllReadyH.nil
    rw [if_pos (by rfl)]
    go_simp
    go_wp2_with (go_at_call 26; refine (HQ.out _).mono ?_; rintro e w3 ⟨rfl, kw3⟩)
    have K3 : Kept w1.heap.size w1.heap.size w1 w3 := K2.trans (kw3.mono K2.size (fun i hi _ => Nat.ne_of_lt (Nat.lt_of_lt_of_le hi K2.size)))
    refine hK.out _ _ (K3) (fun hH => ?_)
    clear hK K
    refine wpAnyH_take_ex (i := 8) 13 rfl rfl (by kernel_rfl) (by kernel_rfl) (by kernel_rfl) (fun _ _ _ _ h => h) (by kernel_rfl) hH ?_
    apply Exists.intro
    apply And.intro
    · intro w9 _
      go_simp
      first | done | rfl
    simp only [List.setIfInBounds_toArray, List.set_cons_zero, List.set_cons_succ]
    refine wpAnyH_done (by kernel_rfl) ?_ _
    refine NoPanic.normal ?_
    go_upto_region 3 with fail
    refine wp_region_lit ?_
    refine @BigFrame.wpList_want _ _ _ _ _ _ _ ?hw71001 ?_
    case hw71001 => kernel_rfl
    intro K hK
    go_simp
    refine hK _ _ ?_
    clear hK K
    refine @BigFrame.wpList_want _ _ _ _ _ _ _ ?hw71002 ?_
    case hw71002 => kernel_rfl
    intro K hK
    go_simp
    refine hK _ _ ?_
    clear hK K
    refine @wpList_load_known _ _ _ _ _ _ _ ?hw71003 3 (.tmp 24) rfl (ab) (35 + 1) rfl (.int .i64 p.name) (H2.out _ K3) ?_
    case hw71003 => kernel_rfl
    simp only [Act.put, List.setIfInBounds_toArray, List.set_cons_zero, List.set_cons_succ]
    refine @BigFrame.wpList_want _ _ _ _ _ _ _ ?hw71004 ?_
    case hw71004 => kernel_rfl
    intro K hK
    go_simp
    refine hK _ _ ?_
    clear hK K
    refine @BigFrame.wpList_want _ _ _ _ _ _ _ ?hw71005 ?_
    case hw71005 => kernel_rfl
    intro K hK
    go_simp
    refine hK _ _ ?_
    clear hK K
    refine @wpList_load_known _ _ _ _ _ _ _ ?hw71006 3 (.tmp 27) rfl (ab + 1) (35 + 1) rfl (.int .i64 q.name) (H4.out _ K3) ?_
    case hw71006 => kernel_rfl
    simp only [Act.put, List.setIfInBounds_toArray, List.set_cons_zero, List.set_cons_succ]
    refine @BigFrame.wpList_want _ _ _ _ _ _ _ ?hw71007 ?_
    case hw71007 => kernel_rfl
    intro K hK
    go_simp
    refine hK _ _ ?_
    clear hK K
    refine @BigFrame.wpList_want _ _ _ _ _ _ _ ?hw71008 ?_
    case hw71008 => kernel_rfl
    intro K hK
    go_simp
    refine hK _ _ ?_
    clear hK K
    go_wp2
    go_ret
    rw [HFIN.out]
    exact ⟨rfl, K1.out.onto K3⟩
  · have HFIN := Lib.hid (HN.out he)
    have hne : (ra == rb) = false := beq_eq_false_iff_ne.2 he
    clear HE HN he
    refine wp_region_noPanic ?_
    refine wp_region_held_drew (S := fun w' => Kept w1.heap.size w1.heap.size w1 w') (by kernel_rfl) ((Kept.refl _ _ _).drew) (fun hH => ?_)
    refine wpAnyH_take_ex (i := 0) 5 rfl rfl (by kernel_rfl) (by kernel_rfl) (by kernel_rfl) (fun _ _ _ _ h => h) (by kernel_rfl) hH ?_
    apply Exists.intro
    apply And.intro
    · intro w9 _
      go_simp
      first | done | rfl
    simp only [List.setIfInBounds_toArray, List.set_cons_zero, List.set_cons_succ]
    refine wpAnyH_take_ex (i := 1) 6 rfl rfl (by kernel_rfl) (by kernel_rfl) (by kernel_rfl) (fun _ _ _ _ h => h) (by kernel_rfl) hH ?_
    apply Exists.intro
    apply And.intro
    · intro w9 _
      go_simp
      first | done | rfl
    simp only [List.setIfInBounds_toArray, List.set_cons_zero, List.set_cons_succ]
    refine wpAnyH_take_at (i := 2) 7 (.int .i64 p.kind) rfl rfl (by kernel_rfl) (by kernel_rfl) (by kernel_rfl) (fun _ _ _ h => h) (yieldsIf_load_known (by kernel_rfl) 3 _ rfl (ab) (35) rfl (.int .i64 p.kind) (fun w' hw' => H1.out w' hw')) hH ?_
    simp only [List.setIfInBounds_toArray, List.set_cons_zero, List.set_cons_succ]
    refine wpAnyH_take_ex (i := 4) 9 rfl rfl (by kernel_rfl) (by kernel_rfl) (by kernel_rfl) (fun _ _ _ _ h => h) (by kernel_rfl) hH ?_
    apply Exists.intro
    apply And.intro
    · intro w9 _
      go_simp
      first | done | rfl
    simp only [List.setIfInBounds_toArray, List.set_cons_zero, List.set_cons_succ]
    refine wpAnyH_take_ex (i := 5) 10 rfl rfl (by kernel_rfl) (by kernel_rfl) (by kernel_rfl) (fun _ _ _ _ h => h) (by kernel_rfl) hH ?_
    apply Exists.intro
    apply And.intro
    · intro w9 _
      go_simp
      first | done | rfl
    simp only [List.setIfInBounds_toArray, List.set_cons_zero, List.set_cons_succ]
    refine wpAnyH_take_at (i := 6) 11 (.int .i64 q.kind) rfl rfl (by kernel_rfl) (by kernel_rfl) (by kernel_rfl) (fun _ _ _ h => h) (yieldsIf_load_known (by kernel_rfl) 3 _ rfl (ab + 1) (35) rfl (.int .i64 q.kind) (fun w' hw' => H3.out w' hw')) hH ?_
    simp only [List.setIfInBounds_toArray, List.set_cons_zero, List.set_cons_succ]
    refine wpAnyH_ready (rs := [3]) (by kernel_rfl) (by simp) ?_
    refine AllReadyH.cons rfl (fun K hK => ?_) AllReadyH.nil
    rw [if_pos (by rfl)]
    go_simp
    go_wp2_with (go_at_call 26; refine (HP.out _).mono ?_; rintro e w2 ⟨rfl, kw2⟩)
    have K2 : Kept w1.heap.size w1.heap.size w1 w2 := KD.trans (kw2.mono KD.size (fun i hi _ => Nat.ne_of_lt (Nat.lt_of_lt_of_le hi KD.size)))
    refine hK.out _ _ (K2) (fun hH => ?_)
    clear hK K
    refine wpAnyH_ready (rs := [7]) (by kernel_rfl) (by simp) ?_
    refine AllReadyH.cons rfl (fun K hK => ?_) AllReadyH.nil
    rw [if_pos (by rfl)]
    go_simp
    go_wp2_with (go_at_call 26; refine (HQ.out _).mono ?_; rintro e w3 ⟨rfl, kw3⟩)
    have K3 : Kept w1.heap.size w1.heap.size w1 w3 := K2.trans (kw3.mono K2.size (fun i hi _ => Nat.ne_of_lt (Nat.lt_of_lt_of_le hi K2.size)))
    refine hK.out _ _ (K3) (fun hH => ?_)
    clear hK K
    refine wpAnyH_take_ex (i := 8) 13 rfl rfl (by kernel_rfl) (by kernel_rfl) (by kernel_rfl) (fun _ _ _ _ h => h) (by kernel_rfl) hH ?_
    apply Exists.intro
    apply And.intro
    · intro w9 _
      go_simp
      first | done | rfl
    simp only [List.setIfInBounds_toArray, List.set_cons_zero, List.set_cons_succ]
    refine wpAnyH_done (by kernel_rfl) ?_ _
    refine NoPanic.normal ?_
    go_upto_region 2 with fail
    have KE : Kept w1.heap.size w1.heap.size w1 w3.drew := K3.drew
    refine wp_region_noPanic ?_
    refine wp_region_held_drew (S := fun w' => Kept w1.heap.size w1.heap.size w1 w') (by kernel_rfl) (KE) (fun hH => ?_)
    refine wpAnyH_take_ex (i := 0) 14 rfl rfl (by kernel_rfl) (by kernel_rfl) (by kernel_rfl) (fun _ _ _ _ h => h) (by kernel_rfl) hH ?_
    apply Exists.intro
    apply And.intro
    · intro w9 _
      go_simp
      first | done | rfl
    simp only [List.setIfInBounds_toArray, List.set_cons_zero, List.set_cons_succ]
    refine wpAnyH_take_ex (i := 1) 15 rfl rfl (by kernel_rfl) (by kernel_rfl) (by kernel_rfl) (fun _ _ _ _ h => h) (by kernel_rfl) hH ?_
    apply Exists.intro
    apply And.intro
    · intro w9 _
      go_simp
      first | done | rfl
    simp only [List.setIfInBounds_toArray, List.set_cons_zero, List.set_cons_succ]
    refine wpAnyH_take_at (i := 2) 16 (.int .i64 p.kind) rfl rfl (by kernel_rfl) (by kernel_rfl) (by kernel_rfl) (fun _ _ _ h => h) (yieldsIf_load_known (by kernel_rfl) 3 _ rfl (ab) (35) rfl (.int .i64 p.kind) (fun w' hw' => H1.out w' hw')) hH ?_
    simp only [List.setIfInBounds_toArray, List.set_cons_zero, List.set_cons_succ]
    refine wpAnyH_take_ex (i := 4) 18 rfl rfl (by kernel_rfl) (by kernel_rfl) (by kernel_rfl) (fun _ _ _ _ h => h) (by kernel_rfl) hH ?_
    apply Exists.intro
    apply And.intro
    · intro w9 _
      go_simp
      first | done | rfl
    simp only [List.setIfInBounds_toArray, List.set_cons_zero, List.set_cons_succ]
    refine wpAnyH_take_ex (i := 5) 19 rfl rfl (by kernel_rfl) (by kernel_rfl) (by kernel_rfl) (fun _ _ _ _ h => h) (by kernel_rfl) hH ?_
    apply Exists.intro
    apply And.intro
    · intro w9 _
      go_simp
      first | done | rfl
    simp only [List.setIfInBounds_toArray, List.set_cons_zero, List.set_cons_succ]
    refine wpAnyH_take_at (i := 6) 20 (.int .i64 q.kind) rfl rfl (by kernel_rfl) (by kernel_rfl) (by kernel_rfl) (fun _ _ _ h => h) (yieldsIf_load_known (by kernel_rfl) 3 _ rfl (ab + 1) (35) rfl (.int .i64 q.kind) (fun w' hw' => H3.out w' hw')) hH ?_
    simp only [List.setIfInBounds_toArray, List.set_cons_zero, List.set_cons_succ]
    refine wpAnyH_ready (rs := [3]) (by kernel_rfl) (by simp) ?_
    refine AllReadyH.cons rfl (fun K hK => ?_) AllReadyH.nil
    rw [if_pos (by rfl)]
    go_simp
    go_wp2_with (go_at_call 26; refine (HP.out _).mono ?_; rintro e w4 ⟨rfl, kw4⟩)
    have K4 : Kept w1.heap.size w1.heap.size w1 w4 := KE.trans (kw4.mono KE.size (fun i hi _ => Nat.ne_of_lt (Nat.lt_of_lt_of_le hi KE.size)))
    refine hK.out _ _ (K4) (fun hH => ?_)
    clear hK K
    refine wpAnyH_ready (rs := [7]) (by kernel_rfl) (by simp) ?_
    refine AllReadyH.cons rfl (fun K hK => ?_) AllReadyH.nil
    rw [if_pos (by rfl)]
    go_simp
    go_wp2_with (go_at_call 26; refine (HQ.out _).mono ?_; rintro e w5 ⟨rfl, kw5⟩)
    have K5 : Kept w1.heap.size w1.heap.size w1 w5 := K4.trans (kw5.mono K4.size (fun i hi _ => Nat.ne_of_lt (Nat.lt_of_lt_of_le hi K4.size)))
    refine hK.out _ _ (K5) (fun hH => ?_)
    clear hK K
    refine wpAnyH_take_ex (i := 8) 22 rfl rfl (by kernel_rfl) (by kernel_rfl) (by kernel_rfl) (fun _ _ _ _ h => h) (by kernel_rfl) hH ?_
    apply Exists.intro
    apply And.intro
    · intro w9 _
      go_simp
      first | done | rfl
    simp only [List.setIfInBounds_toArray, List.set_cons_zero, List.set_cons_succ]
    refine wpAnyH_take_ex (i := 9) 4 rfl rfl (by kernel_rfl) (by kernel_rfl) (by kernel_rfl) (fun _ _ _ _ h => h) (by kernel_rfl) hH ?_
    apply Exists.intro
    apply And.intro
    · intro w9 _
      go_simp
      first | done | rfl
    simp only [List.setIfInBounds_toArray, List.set_cons_zero, List.set_cons_succ]
    refine wpAnyH_done (by kernel_rfl) ?_ _
    refine NoPanic.normal ?_
    go_wp2
    go_ret
    rw [HFIN.out]
    exact ⟨rfl, K1.out.onto K5⟩

end Go.Proofs.YtcjcomeakkjiiaaDoor
