/-
  The reader's own steps: From, Err, Fail, take.
-/
import Derived.Test.YtbpcmfnfjbnloaaDoorWireText
namespace Go.Proofs.YtbpcmfnfjbnloaaDoor
open Go.RowKit

/-- It has failed with e: nil (ErrArg), or its error's cell says so. -/
def Failed (w : World) (p : Value) (e : Int) : Prop := e ≠ 0 ∧ ((p = .pointer none ∧ e = 1) ∨ ∃ b, p = .pointer (some ⟨b, 0, none⟩) ∧ w.cell? ⟨b, 1, none⟩ = some (.int .i64 e))

theorem Rd.cells {w : World} {top b : Nat} {l : List UInt8} {e : Int} (h : Rd w top b l e) : w.cell? ⟨b, 1, none⟩ = some (.int .i64 e) := by
  obtain ⟨_, _, hb, _⟩ := h.ex
  exact two_cell1 hb
theorem Rd.failed {w : World} {top b : Nat} {l : List UInt8} {e : Int} (h : Rd w top b l e) (he : e ≠ 0) : Failed w (.pointer (some ⟨b, 0, none⟩)) e := ⟨he, .inr ⟨b, rfl, h.cells⟩⟩

theorem err_nil (w : World) : Calls Tryd.prog 27 #[.pointer none] w fun e w' => e = .returned (.int .i64 1) ∧ w = w' := by
  go_enter Tryd.func27, Tryd.ntmps27
  go_wp2
  go_ret
  exact ⟨rfl, rfl⟩
theorem err_cell (b : Nat) (x : Int) (w : World) (h : w.cell? ⟨b, 1, none⟩ = some (.int .i64 x)) : Calls Tryd.prog 27 #[.pointer (some ⟨b, 0, none⟩)] w fun e w' => e = .returned (.int .i64 x) ∧ w = w' := by
  go_enter Tryd.func27, Tryd.ntmps27
  go_wp2
  go_ret
  exact ⟨rfl, rfl⟩
theorem err_failed (p : Value) (x : Int) (w : World) (h : Failed w p x) : Calls Tryd.prog 27 #[p] w fun e w' => e = .returned (.int .i64 x) ∧ w = w' := by
  obtain ⟨_, ⟨rfl, rfl⟩ | ⟨b, rfl, hc⟩⟩ := h
  · exact err_nil w
  · exact err_cell b x w hc

theorem take_failed (p : Value) (x n : Int) (w : World) (h : Failed w p x) : Calls Tryd.prog 38 #[p, .int .i64 n] w fun e w' => e = .returned (.tuple #[.slice none 0 0, .bool false]) ∧ w = w' := by
  have hx : (x != 0) = true := by have := h.1; simpa using this
  go_enter Tryd.func38, Tryd.ntmps38
  go_wp2_with (go_at_call 27; refine (err_failed p x _ h).mono ?_; rintro e w' ⟨rfl, rfl⟩)
  go_ret2
  exact ⟨rfl, rfl⟩

theorem fail_nil (x : Int) (w : World) : Calls Tryd.prog 25 #[.pointer none, .int .i64 x] w fun e w' => e = .returned (.tuple #[]) ∧ w = w' := by
  go_enter Tryd.func25, Tryd.ntmps25
  go_wp2
  refine bodyPost_ret (results_none rfl _ _ _) rfl ?_
  exact ⟨rfl, rfl⟩
theorem fail_again (b : Nat) (x y : Int) (w : World) (hy : y ≠ 0) (h : w.cell? ⟨b, 1, none⟩ = some (.int .i64 y)) : Calls Tryd.prog 25 #[.pointer (some ⟨b, 0, none⟩), .int .i64 x] w fun e w' => e = .returned (.tuple #[]) ∧ w = w' := by
  have hx : (y != 0) = true := by simpa using hy
  go_enter Tryd.func25, Tryd.ntmps25
  go_wp2
  refine bodyPost_ret (results_none rfl _ _ _) rfl ?_
  exact ⟨rfl, rfl⟩
theorem fail_ok (b : Nat) (w : World) (h : w.cell? ⟨b, 1, none⟩ = some (.int .i64 0)) : Calls Tryd.prog 25 #[.pointer (some ⟨b, 0, none⟩), .int .i64 0] w fun e w' => e = .returned (.tuple #[]) ∧ w = w' := by
  go_enter Tryd.func25, Tryd.ntmps25
  go_wp2
  refine bodyPost_ret (results_none rfl _ _ _) rfl ?_
  exact ⟨rfl, rfl⟩
theorem fail_raw (b : Nat) (x : Int) (v : Value) (w : World) (hx : (x == 0) = false) (h0 : w.cell? ⟨b, 0, none⟩ = some v) (h : w.cell? ⟨b, 1, none⟩ = some (.int .i64 0)) (f0 : w.frozen? ⟨b, 0, none⟩ = false) (f1 : w.frozen? ⟨b, 1, none⟩ = false) :
    Calls Tryd.prog 25 #[.pointer (some ⟨b, 0, none⟩), .int .i64 x] w fun e w' => e = .returned (.tuple #[]) ∧ (w.setCell ⟨b, 1, none⟩ (.int .i64 x)).setCell ⟨b, 0, none⟩ (.slice none 0 0) = w' := by
  go_enter Tryd.func25, Tryd.ntmps25
  go_wp2
  go_end0
  exact ⟨rfl, rfl⟩

/-- Fail: what is left behind it. -/
theorem fail_rd (top b : Nat) (l : List UInt8) (e0 x : Int) (w : World) (h : Rd w top b l e0) :
    Calls Tryd.prog 25 #[.pointer (some ⟨b, 0, none⟩), .int .i64 x] w fun e w' => e = .returned (.tuple #[]) ∧ Rd w' top b (if e0 = 0 ∧ x ≠ 0 then [] else l) (if e0 = 0 then x else e0) ∧ Kept w.heap.size b w w' := by
  by_cases h0 : e0 = 0
  · subst h0
    by_cases hx : x = 0
    · subst hx
      rw [if_neg (by simp), if_pos rfl]
      refine (fail_ok b w h.cells).mono ?_
      rintro e w' ⟨rfl, rfl⟩
      exact ⟨rfl, h, Kept.refl _ _ _⟩
    · rw [if_pos ⟨rfl, hx⟩, if_pos rfl]
      obtain ⟨ao, c, hb, _⟩ := h.ex
      refine (fail_raw b x _ w (by simpa using hx) (two_cell0 hb) (two_cell1 hb) (two_free hb 0) (two_free hb 1)).mono ?_
      rintro e w' ⟨rfl, rfl⟩
      refine ⟨rfl, ⟨h.lt, by simp [World.setCell]; exact h.le, ⟨none, 0, two_set0 (two_set1 hb), Nat.le_refl _, fun hc => absurd hc (Nat.lt_irrefl 0)⟩, fun _ => rfl⟩, ((Kept.refl _ _ _).set (.inl rfl) 1 _).set (.inl rfl) 0 _⟩
  · rw [if_neg (fun h => h0 h.1), if_neg h0]
    refine (fail_again b x e0 w h0 h.cells).mono ?_
    rintro e w' ⟨rfl, rfl⟩
    exact ⟨rfl, h, Kept.refl _ _ _⟩

theorem take_short (top b : Nat) (l : List UInt8) (n : Nat) (w : World) (h : Rd w top b l 0) (hn : l.length < n) :
    Calls Tryd.prog 38 #[.pointer (some ⟨b, 0, none⟩), .int .i64 n] w fun e w' => e = .returned (.tuple #[.slice none 0 0, .bool false]) ∧ Rd w' top b [] 2 ∧ Kept w.heap.size b w w' := by
  obtain ⟨ao, c, hb, _⟩ := h.ex
  have c0 := two_cell0 hb
  have c1 := two_cell1 hb
  clear hb
  go_enter Tryd.func38, Tryd.ntmps38
  go_wp2_with (first | (go_at_call 27; refine (err_cell b 0 _ c1).mono ?_; rintro e w' ⟨rfl, rfl⟩) | (go_at_call 25; refine (fail_rd top b l 0 2 _ h).mono ?_; rintro e w' ⟨rfl, h1, h2⟩))
  go_ret2
  exact ⟨rfl, h1, h2⟩

/-- What a taking does to the reader's slice. -/
def TakeRaw (w : World) (b : Nat) (ao : Option Addr) (len c n : Nat) (e : Ending) (w' : World) : Prop :=
  e = .returned (.tuple #[.slice ao n c, .bool true]) ∧ ∃ a', (n < c → a' = ao.map (·.add n)) ∧ w.setCell ⟨b, 0, none⟩ (.slice a' (len - n) (c - n)) = w'
theorem take_raw (b : Nat) (ao : Option Addr) (len c n : Nat) (w : World) (c0 : w.cell? ⟨b, 0, none⟩ = some (.slice ao len c)) (c1 : w.cell? ⟨b, 1, none⟩ = some (.int .i64 0)) (f0 : w.frozen? ⟨b, 0, none⟩ = false) (hn : n ≤ len) (hc : len ≤ c) :
    Calls Tryd.prog 38 #[.pointer (some ⟨b, 0, none⟩), .int .i64 n] w fun e w' => TakeRaw w b ao len c n e w' := by
  have h1 : ¬ len < n := by omega
  by_cases hcn : c = n
  · subst hcn
    obtain rfl : len = c := by omega
    go_enter Tryd.func38, Tryd.ntmps38
    go_wp2_with (first | (go_at_call 27; refine (err_cell b 0 _ c1).mono ?_; rintro e w' ⟨rfl, rfl⟩))
    go_ret2
    exact ⟨rfl, ao, fun h => absurd h (Nat.lt_irrefl _), by simp⟩
  · go_enter Tryd.func38, Tryd.ntmps38
    go_wp2_with (first | (go_at_call 27; refine (err_cell b 0 _ c1).mono ?_; rintro e w' ⟨rfl, rfl⟩))
    go_ret2
    exact ⟨rfl, _, fun _ => rfl, rfl⟩

/-- The bytes that are taken, and the reader behind it. -/
def TakeOk (w : World) (top b : Nat) (l : List UInt8) (n : Nat) (e : Ending) (w' : World) : Prop :=
  ∃ ao c, e = .returned (.tuple #[.slice ao n c, .bool true]) ∧ Shows w' b ao (l.take n) ∧ Rd w' top b (l.drop n) 0 ∧ Kept w.heap.size b w w'
theorem take_ok (top b : Nat) (l : List UInt8) (n : Nat) (w : World) (h : Rd w top b l 0) (hn : n ≤ l.length) :
    Calls Tryd.prog 38 #[.pointer (some ⟨b, 0, none⟩), .int .i64 n] w fun e w' => TakeOk w top b l n e w' := by
  obtain ⟨ao, c, hb, hc, hex⟩ := h.ex
  refine (take_raw b ao l.length c n w (two_cell0 hb) (two_cell1 hb) (two_free hb 0) hn hc).mono ?_
  rintro e w' ⟨rfl, a', ha, rfl⟩
  have hk : Kept w.heap.size b w (w.setCell ⟨b, 0, none⟩ (.slice a' (l.length - n) (c - n))) := (Kept.refl _ _ _).set (.inl rfl) 0 _
  have hlt := h.lt
  have hle := h.le
  refine ⟨ao, c, rfl, fun hpos => ?_, ⟨hlt, Nat.le_trans hle hk.size, ⟨a', c - n, ?_, ?_, fun hpos => ?_⟩, fun h0 => absurd rfl h0⟩, hk⟩
  · rw [List.length_take] at hpos
    have hp : 0 < c := by clear hex; omega
    obtain ⟨g, o, rfl, hg, hgt, hcell⟩ := hex hp
    clear hex
    refine ⟨g, o, rfl, hg, Nat.lt_of_lt_of_le hgt (Nat.le_trans hle hk.size), fun j hj => ?_⟩
    rw [List.length_take] at hj
    rw [hk.cell (p := ⟨g, o + j, none⟩) (by show g < _; omega) hg, hcell j (by omega), List.getElem_take]
  · rw [List.length_drop]; exact two_set0 hb
  · rw [List.length_drop]; clear hex; omega
  · have hp : 0 < c := by clear hex; omega
    obtain ⟨g, o, rfl, hg, hgt, hcell⟩ := hex hp
    clear hex
    refine ⟨g, o + n, ?_, hg, hgt, fun j hj => ?_⟩
    · rw [ha (by omega)]
      simp [Addr.add_lit]
    · rw [List.length_drop] at hj
      rw [hk.cell (p := ⟨g, o + n + j, none⟩) (by show g < _; omega) hg, Nat.add_assoc, hcell (n + j) (by omega), List.getElem_drop]

theorem from_calls (s : ByteArray) (w : World) :
    Calls Tryd.prog 16 #[.string s] w fun e w' => e = .returned (.pointer (some ⟨w.heap.size + 1, 0, none⟩)) ∧ Rd w' (w.heap.size + 2) (w.heap.size + 1) s.data.toList 0 ∧ Kept w.heap.size w.heap.size w w' ∧ w'.heap.size = w.heap.size + 2 := by
  have kc := fun (w : World) => run_bytes_of_string (P := Tryd.prog) w 9 56 5 s Tryd.underlying9 Tryd.underlying56 Tryd.underlying5
  go_enter Tryd.func16, Tryd.ntmps16
  go_wp2
  go_ret
  have e1 : ∀ (o1 o2 : Obj), ((w.alloc o1).alloc o2).drew.heap[w.heap.size + 1]? = some o2 := fun o1 o2 => by
    have := heap_new (w.alloc o1) o2
    rwa [show (w.alloc o1).heap.size = w.heap.size + 1 from by simp] at this
  refine ⟨rfl, ⟨Nat.lt_succ_self _, by simp, ⟨some ⟨w.heap.size, 0, none⟩, grownCap w s.size 0 5, by rw [e1]; simp, ?_, fun _ => ⟨w.heap.size, 0, rfl, by omega, by omega, fun j hj => ?_⟩⟩, fun h => absurd rfl h⟩, (((Kept.refl _ _ _).alloc (Nat.le_refl _) _).alloc (by simp) _).drew, by simp⟩
  · have := grownCap_ge w s.size 0 5
    simpa using this
  · have e2 := text_cells w s (grownCap w s.size 0 5) ((bytesRow s (grownCap w s.size 0 5)).size, (bytesRow s (grownCap w s.size 0 5)).size + 1) j hj
    rw [Addr.add_lit] at e2
    refine Eq.trans (World.cell?_of_block (w := (w.alloc (.cells (bytesRow s (grownCap w s.size 0 5)) 5 ((bytesRow s (grownCap w s.size 0 5)).size, (bytesRow s (grownCap w s.size 0 5)).size + 1))).drew) ?_) e2
    exact Below.heap_alloc _ _ _ (by simp)
end Go.Proofs.YtbpcmfnfjbnloaaDoor
