/-
  The landed Cmp, the document's Less.
-/
import Derived.Test.YtabccononnkflaaShaCmp
namespace Go.Proofs.Ytabccononnkflaa
open Go.RowKit Go.Lib

theorem slice_hash (w : World) (b : Nat) : (Instr.sliceAt 25 (.pointer (some ⟨b, 0, none⟩)) none none none).run Try.prog w = .ok (.slice (some ⟨b, 0, none⟩) 32 32) w := by
  have hA : Try.prog.arrayLen 25 = 32 := by kernel_rfl
  have hE : Try.prog.elem 25 = 5 := by kernel_rfl
  have hu : Try.prog.underlying 25 = some (.array (Try.prog.arrayLen 25) (Try.prog.elem 25)) := by kernel_rfl
  rw [run_sliceAt_array_all w 25 _ hu, hE, Try.sizeOf5, hA]
  simp only [Result.andThen_ok, slicedAt]
  rw [if_neg (by decide), Addr.add_lit]
theorem slice_bytes32 (w : World) (b : Nat) : (Instr.sliceAt 24 (.pointer (some ⟨b, 0, none⟩)) none none none).run Try.prog w = .ok (.slice (some ⟨b, 0, none⟩) 32 32) w := by
  have hA : Try.prog.arrayLen 24 = 32 := by kernel_rfl
  have hE : Try.prog.elem 24 = 5 := by kernel_rfl
  have hu : Try.prog.underlying 24 = some (.array (Try.prog.arrayLen 24) (Try.prog.elem 24)) := by kernel_rfl
  rw [run_sliceAt_array_all w 24 _ hu, hE, Try.sizeOf5, hA]
  simp only [Result.andThen_ok, slicedAt]
  rw [if_neg (by decide), Addr.add_lit]

set_option maxRecDepth 100000 in
theorem cmp_calls (l m : List UInt8) (hl : l.length = 32) (hm : m.length = 32) (w : World) : Calls Try.prog 15 #[.agg (bcells l).toArray, .agg (bcells m).toArray] w fun e w' => e = .returned (.int .i64 (compareBytes l m)) ∧ Kept w.heap.size w.heap.size w w' := by
  generalize hq1 : (bcells l).toArray = cs
  generalize hq2 : (bcells m).toArray = ds
  have HQ1 := Lib.hid hq1.symm
  have HQ2 := Lib.hid hq2.symm
  clear hq1 hq2
  go_enter Try.func15, Try.ntmps15
  go_wp2_with fail
  have hA : ((w.alloc (.cells cs 25)).alloc (.cells ds 25)).heap[w.heap.size]? = some (.cells cs 25 (0, 0)) := heap_alloc2_old w _ _
  have hB : ((w.alloc (.cells cs 25)).alloc (.cells ds 25)).heap[w.heap.size + 1]? = some (.cells ds 25 (0, 0)) := heap_alloc2_last w _ _
  have hK : Kept w.heap.size w.heap.size w ((w.alloc (.cells cs 25)).alloc (.cells ds 25)) := ((Kept.refl _ _ _).alloc (Nat.le_refl _) _).alloc (by simp) _
  generalize (w.alloc (.cells cs 25)).alloc (.cells ds 25) = w2 at hA hB hK ⊢
  rw [HQ1.out] at hA
  rw [HQ2.out] at hB
  have hcall : ∀ n, Calls Try.prog 25 #[.slice (some ⟨w.heap.size, 0, none⟩) 32 32, .slice (some ⟨w.heap.size + 1, 0, none⟩) 32 32] (w2.drewN n) fun e w' => e = .returned (.int .i64 (compareBytes l m)) ∧ w' = w2.drewN n := fun n => by
    have := comparebytes_calls l m w.heap.size (w.heap.size + 1) 32 32 (w2.drewN n) (fun j hj => cells_get hA (bcells_get l j hj)) (fun j hj => cells_get hB (bcells_get m j hj))
    rw [hl, hm] at this
    exact this
  have Hcall := Lib.hid hcall
  have HK := Lib.hid hK
  have s1 := fun w => slice_hash w
  clear hcall hK hA hB
  go_quiet ((go_at_call 25; exact Calls.quiet_of_same (Hcall.out _)))
  go_wp2
  go_ret
  exact ⟨rfl, HK.out.drewN _⟩

set_option maxRecDepth 100000 in
theorem less_calls (l m : List UInt8) (hl : l.length = 32) (hm : m.length = 32) (w : World) : Calls Try.prog 16 #[.agg (bcells l).toArray, .agg (bcells m).toArray] w fun e w' => e = .returned (.bool (decide (compareBytes l m < 0))) ∧ Kept w.heap.size w.heap.size w w' := by
  rw [cb_less]
  generalize hq1 : (bcells l).toArray = cs
  generalize hq2 : (bcells m).toArray = ds
  have HQ1 := Lib.hid hq1.symm
  have HQ2 := Lib.hid hq2.symm
  clear hq1 hq2
  go_enter Try.func16, Try.ntmps16
  go_wp2_with fail
  have hA : ((w.alloc (.cells cs 24)).alloc (.cells ds 24)).heap[w.heap.size]? = some (.cells cs 24 (0, 0)) := heap_alloc2_old w _ _
  have hB : ((w.alloc (.cells cs 24)).alloc (.cells ds 24)).heap[w.heap.size + 1]? = some (.cells ds 24 (0, 0)) := heap_alloc2_last w _ _
  have hK : Kept w.heap.size w.heap.size w ((w.alloc (.cells cs 24)).alloc (.cells ds 24)) := ((Kept.refl _ _ _).alloc (Nat.le_refl _) _).alloc (by simp) _
  generalize (w.alloc (.cells cs 24)).alloc (.cells ds 24) = w2 at hA hB hK ⊢
  rw [HQ1.out] at hA
  rw [HQ2.out] at hB
  have c1 : ∀ n, (convert 51 9 (.slice (some ⟨w.heap.size, 0, none⟩) 32 32)).run Try.prog (w2.drewN n) = .ok (.string (str l)) (w2.drewN n) := fun n => by
    have := run_convert_bytes_back (P := Try.prog) (w2.drewN n) 51 9 5 ⟨w.heap.size, 0, none⟩ 32 l Try.underlying51 Try.underlying5 Try.underlying9 (fun j hj => by rw [Addr.add_lit, Nat.zero_add]; exact cells_get hA (bcells_get l j hj))
    rw [hl] at this
    exact this
  have c2 : ∀ n, (convert 51 9 (.slice (some ⟨w.heap.size + 1, 0, none⟩) 32 32)).run Try.prog (w2.drewN n) = .ok (.string (str m)) (w2.drewN n) := fun n => by
    have := run_convert_bytes_back (P := Try.prog) (w2.drewN n) 51 9 5 ⟨w.heap.size + 1, 0, none⟩ 32 m Try.underlying51 Try.underlying5 Try.underlying9 (fun j hj => by rw [Addr.add_lit, Nat.zero_add]; exact cells_get hB (bcells_get m j hj))
    rw [hm] at this
    exact this
  have HK := Lib.hid hK
  have s1 := fun w => slice_bytes32 w
  clear hK hA hB
  go_quiet (fail)
  go_wp2
  go_ret
  exact ⟨rfl, HK.out.drewN _⟩

end Go.Proofs.Ytabccononnkflaa
