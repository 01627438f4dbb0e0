/-
  The walk of the statement WireNil: a nil writer and a nil reader refuse; it answers true and leaves all that was there as it was.
-/
import Derived.Test.YtbpcmfnfjbnloaaDoorWireFew
import Derived.Stop.BytesEq
namespace Go.Proofs.YtbpcmfnfjbnloaaDoor
open Go.RowKit

theorem wireGuard30 : Tryd.prog.eqGuardType Tryd.prog.depth 30 = false := by kernel_rfl
theorem wireSizeOf5 (w : World) : (sizeOf 5).run Tryd.prog w = .ok 1 w := by kernel_rfl
theorem hash_equalIn (w : World) (xs ys : List UInt8) (hx : xs.length = 32) (hy : ys.length = 32) : (Op.equalIn 10000 30 (.agg (bcells xs).toArray) (.agg (bcells ys).toArray)).run Tryd.prog w = .ok (xs == ys) w :=
  run_equalIn_bytes w 9998 30 5 32 Tryd.underlying30 Tryd.underlying5 wireSizeOf5 xs ys hx hy
theorem zeros32_same (w : World) : (Op.equalIn 10000 30 (.agg zeros32) (.agg zeros32)).run Tryd.prog w = .ok true w := by
  have := hash_equalIn w (List.replicate 32 0) (List.replicate 32 0) rfl rfl
  rwa [beq_self_eq_true] at this

theorem zeros32_lit (w : World) : (Op.equalIn 10000 30 (.agg zeros32) (.agg #[Value.int IntKind.u8 0, Value.int IntKind.u8 0, Value.int IntKind.u8 0, Value.int IntKind.u8 0, Value.int IntKind.u8 0, Value.int IntKind.u8 0, Value.int IntKind.u8 0, Value.int IntKind.u8 0, Value.int IntKind.u8 0, Value.int IntKind.u8 0, Value.int IntKind.u8 0, Value.int IntKind.u8 0, Value.int IntKind.u8 0, Value.int IntKind.u8 0, Value.int IntKind.u8 0, Value.int IntKind.u8 0, Value.int IntKind.u8 0, Value.int IntKind.u8 0, Value.int IntKind.u8 0, Value.int IntKind.u8 0, Value.int IntKind.u8 0, Value.int IntKind.u8 0, Value.int IntKind.u8 0, Value.int IntKind.u8 0, Value.int IntKind.u8 0, Value.int IntKind.u8 0, Value.int IntKind.u8 0, Value.int IntKind.u8 0, Value.int IntKind.u8 0, Value.int IntKind.u8 0, Value.int IntKind.u8 0, Value.int IntKind.u8 0])).run Tryd.prog w = .ok true w := zeros32_same w

theorem nil_failed (w : World) : Failed w (.pointer none) 1 := ⟨by decide, .inl ⟨rfl, rfl⟩⟩

theorem nil_long (t : Th) (ok : t.Ok) (n : Int) (w : World) (ht : Tab w) (hs : (200000 : Int) < t.s.size) : Calls Tryd.prog 8 #[.agg t.cells.toArray, .int .i64 n] w fun e w' => e = .returned (.bool true) ∧ Kept w.heap.size w.heap.size w w' := by
  have c2 := t.cell2
  have hsz := ok.s
  have hd : decide ((200000 : Int) < (t.s.size : Int)) = true := by rw [decide_eq_true_iff]; exact hs
  have ht1 : Tab (w.alloc (.cells t.cells.toArray 32)) := ht.same (Below.heap_alloc _ _ _ ht.lt)
  have hk := (Kept.refl w.heap.size w.heap.size w).alloc (Nat.le_refl _) (.cells t.cells.toArray 32)
  generalize t.cells.toArray = cs at *
  clear hs
  go_enter Tryd.func8, Tryd.ntmps8
  go_wp2_with fail
  refine (awake_calls _ ht1).mono ?_
  rintro e w1 ⟨rfl, k1⟩
  go_wp2
  go_ret
  exact ⟨rfl, hk.trans (k1.mono (by simp) (fun k hk _ => by simp; omega))⟩

theorem nil_short (t : Th) (ok : t.Ok) (n : Int) (w : World) (ht : Tab w) (hs : ¬ (200000 : Int) < t.s.size) : Calls Tryd.prog 8 #[.agg t.cells.toArray, .int .i64 n] w fun e w' => e = .returned (.bool true) ∧ Kept w.heap.size w.heap.size w w' := by
  have c2 := t.cell2
  have hsz := ok.s
  have hpos := ht.lt
  have hd : decide ((200000 : Int) < (t.s.size : Int)) = false := by rw [decide_eq_false_iff_not]; exact hs
  have ht1 : Tab (w.alloc (.cells t.cells.toArray 32)) := ht.same (Below.heap_alloc _ _ _ ht.lt)
  have hk := (Kept.refl w.heap.size w.heap.size w).alloc (Nat.le_refl _) (.cells t.cells.toArray 32)
  have hW : WrV (w.alloc (.cells t.cells.toArray 32)) w.heap.size w.heap.size (.pointer none) none := .inl ⟨rfl, rfl, by simp, rfl⟩
  have hput := put_any w.heap.size w.heap.size (.pointer none) none t ok _ hW (by simp) ht1 (fun l hl => by cases hl)
  have Hput := Lib.hid hput
  have hsz1 : (w.alloc (.cells t.cells.toArray 32)).heap.size = w.heap.size + 1 := by simp
  have hbox : (w.alloc (.cells t.cells.toArray 32)).heap[w.heap.size]? = some (.cells t.cells.toArray 32 (0, 0)) := heap_new _ _
  have Hbox := Lib.hid hbox
  have h36 : t.cells.toArray.size = 36 := by simpa using t.cells_length ok
  have H36 := Lib.hid h36
  clear hs hput hbox h36
  generalize hcs : t.cells.toArray = cs at *
  clear hcs
  go_enter Tryd.func8, Tryd.ntmps8
  go_wp2_with (with_reducible refine wpList_load_row rfl 32 _ rfl w.heap.size rfl 32 cs (0, 0) _ Hbox.out Tryd.underlying32 rfl (by rw [wireInfo32, H36.out]) ?_)
  refine Hput.out.mono ?_
  rintro e w1 ⟨rfl, _, k1⟩
  have kk := hk.trans k1
  go_wp2_with fail
  refine (wend_nil _).mono ?_
  rintro e w2 ⟨rfl, rfl⟩
  go_wp2_with fail
  refine (fail_nil 5 _).mono ?_
  rintro e w2 ⟨rfl, rfl⟩
  go_wp2_with fail
  refine (awake_calls _ (ht.kept kk hpos hpos)).mono ?_
  rintro e w2 ⟨rfl, k2⟩
  have hs1 := kk.size
  have kk2 := kk.trans (k2.mono hs1 (fun k hk _ => by omega))
  have hs2 := kk2.size
  go_wp2_with fail
  refine (num_failed _ 1 n _ (nil_failed _)).mono ?_
  rintro e w3 ⟨rfl, rfl⟩
  go_wp2_with fail
  refine (rtext_failed _ 1 n _ (nil_failed _)).mono ?_
  rintro e w3 ⟨rfl, rfl⟩
  go_wp2_with fail
  refine (rhash_failed _ 1 _ (fun w' _ => nil_failed w')).mono ?_
  rintro e w3 ⟨rfl, k3⟩
  have kk3 := kk2.trans (k3.mono hs2 (fun k hk _ => by omega))
  have hm := wireGuard30
  have hz := zeros32_lit
  go_wp2_with fail
  refine (rflag_failed _ 1 _ (nil_failed _)).mono ?_
  rintro e w4 ⟨rfl, rfl⟩
  go_wp2_with fail
  refine (err_nil _).mono ?_
  rintro e w4 ⟨rfl, rfl⟩
  go_wp2_with fail
  refine (rend_failed _ 1 _ (nil_failed _)).mono ?_
  rintro e w4 ⟨rfl, rfl⟩
  go_wp2
  go_ret
  exact ⟨rfl, kk3⟩

theorem nil_walk (t : Th) (ok : t.Ok) (n : Int) (w : World) (ht : Tab w) : Calls Tryd.prog 8 #[.agg t.cells.toArray, .int .i64 n] w fun e w' => e = .returned (.bool true) ∧ Kept w.heap.size w.heap.size w w' := by
  by_cases hs : (200000 : Int) < t.s.size
  · exact nil_long t ok n w ht hs
  · exact nil_short t ok n w ht hs

end Go.Proofs.YtbpcmfnfjbnloaaDoor
