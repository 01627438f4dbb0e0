/-
  KeyMake; KeyRefMake; KeyAwake: several texts in one.
-/
import Derived.Test.YtdfbmijbmlainaaDoorKB
import Derived.Test.YtdfbmijbmlainaaDoorKA

namespace Go.Proofs.YtdfbmijbmlainaaDoor
open Go.RowKit Go.Lib

namespace Ky
def steps (sb : Nat) (c : ByteArray) : Array Value := (([0, 1, 2, 3, 4, 5] : List Nat).flatMap fun i => [Value.pointer (some ⟨sb, 32 * src i, none⟩), .string (lab i), .string (cx c i), .pointer (some ⟨sb, 32 * (i + 1), none⟩)]).toArray
def zstep : Array Value := #[.pointer none, .string ⟨#[]⟩, .string ⟨#[]⟩, .pointer none]
end Ky
set_option maxRecDepth 100000 in
theorem build_step (sb a b : Nat) (l c : ByteArray) (w : World) : (Instr.build 60 #[(0, .pointer (some ⟨sb, a, none⟩)), (1, .string l), (2, .string c), (3, .pointer (some ⟨sb, b, none⟩))]).run Tryd.prog w = .ok (.agg #[.pointer (some ⟨sb, a, none⟩), .string l, .string c, .pointer (some ⟨sb, b, none⟩)]) w := by kernel_rfl
set_option maxRecDepth 100000 in
theorem build_steps (sb : Nat) (c : ByteArray) (w : World) : (Instr.build 61 #[(0, .agg #[.pointer (some ⟨sb, 0, none⟩), .string ⟨#[119, 101, 108, 99, 111, 109, 101]⟩, .string ⟨#[]⟩, .pointer (some ⟨sb, 32, none⟩)]), (1, .agg #[.pointer (some ⟨sb, 0, none⟩), .string ⟨#[101, 112, 111, 99, 104]⟩, .string c, .pointer (some ⟨sb, 64, none⟩)]), (2, .agg #[.pointer (some ⟨sb, 64, none⟩), .string ⟨#[105, 110, 105, 116]⟩, .string ⟨#[]⟩, .pointer (some ⟨sb, 96, none⟩)]), (3, .agg #[.pointer (some ⟨sb, 64, none⟩), .string ⟨#[99, 111, 110, 102, 105, 114, 109]⟩, .string ⟨#[]⟩, .pointer (some ⟨sb, 128, none⟩)]), (4, .agg #[.pointer (some ⟨sb, 64, none⟩), .string ⟨#[97, 112, 112, 115]⟩, .string ⟨#[]⟩, .pointer (some ⟨sb, 160, none⟩)]), (5, .agg #[.pointer (some ⟨sb, 64, none⟩), .string ⟨#[101, 120, 112, 111, 114, 116]⟩, .string ⟨#[]⟩, .pointer (some ⟨sb, 192, none⟩)])]).run Tryd.prog w = .ok (.agg (Ky.steps sb c)) w := by kernel_rfl
set_option maxRecDepth 100000 in
theorem index_steps (sb : Nat) (c : ByteArray) : ∀ (i : Nat) (_ : i < 6) (w : World), (Instr.index 61 (.agg (Ky.steps sb c)) (.int .i64 (i : Int))).run Tryd.prog w = .ok (.agg #[.pointer (some ⟨sb, 32 * Ky.src i, none⟩), .string (Ky.lab i), .string (Ky.cx c i), .pointer (some ⟨sb, 32 * (i + 1), none⟩)]) w
  | 0, _, _ => by kernel_rfl
  | 1, _, _ => by kernel_rfl
  | 2, _, _ => by kernel_rfl
  | 3, _, _ => by kernel_rfl
  | 4, _, _ => by kernel_rfl
  | 5, _, _ => by kernel_rfl
set_option maxRecDepth 100000 in
theorem alloc_step (w : World) : (Instr.alloc 60 true (.tuple #[])).run Tryd.prog w = .ok (.pointer (some ⟨w.heap.size, 0, none⟩)) (w.alloc (.cells Ky.zstep 60)) := by kernel_rfl
theorem stepInfo (a b c d : Value) : (Tryd.prog.info? 60).map (·.size) = some (#[a, b, c, d] : Array Value).size := by kernel_rfl
set_option maxRecDepth 100000 in
theorem build_sec0 (j c : List UInt8) (hj : j.length = 32) (w : World) : (Instr.build 26 #[(0, .agg (bcells j).toArray)]).run Tryd.prog w = .ok (.agg (bcells (Ky.flat j c 0)).toArray) w := by
  revert j
  refine ky_list32 ?_
  intros
  kernel_rfl
theorem step_cells {w : World} {b : Nat} {a1 a2 a3 a4 : Value} {t : TypeId} (h : w.heap[b]? = some (.cells #[a1, a2, a3, a4] t (0, 0))) : w.cell? ⟨b, 0, none⟩ = some a1 ∧ w.cell? ⟨b, 1, none⟩ = some a2 ∧ w.cell? ⟨b, 2, none⟩ = some a3 ∧ w.cell? ⟨b, 3, none⟩ = some a4 := by
  simp [World.cell?, h]

set_option maxRecDepth 100000 in
set_option maxHeartbeats 6400000 in
/-- Over any derivation: I says what holds of the world behind so many of them. -/
theorem make_any11 (p : Option Addr) (j : List UInt8) (hj : j.length = 32) (cc : ByteArray) (w : World) (I : Nat → World → Prop)
    (h0 : ∀ x, Kept w.heap.size w.heap.size w x → I 0 x)
    (hkp : ∀ i x x', I i x → Kept x.heap.size x.heap.size x x' → I i x')
    (hst : ∀ i (x : World) g k vs cs, I i x → w.heap.size ≤ g → x.heap[g]? = some (.cells cs 26 (0, 0)) → I i (x.setCells g k vs))
    (hsr : ∀ i (x : World) g vs cs, I i x → w.heap.size ≤ g → x.heap[g]? = some (.cells cs 26 (0, 0)) → I i (x.setRow g vs))
    (hdv : ∀ i, i < 6 → ∀ x, I i x → Calls Tryd.prog 28 #[.pointer p, .agg (bcells (Ky.key j cc.data.toList (Ky.src i))).toArray, .string (Ky.lab i), .string (Ky.cx cc i)] x fun e w' => e = .returned (.agg (bcells (Ky.key j cc.data.toList (i + 1))).toArray) ∧ I (i + 1) w' ∧ ∀ (g : Nat) (cs : Array Value) (t : TypeId) (fr : Nat × Nat), x.heap[g]? = some (.cells cs t fr) → t = 26 ∨ t = 60 → w'.heap[g]? = some (.cells cs t fr)) :
    Calls Tryd.prog 10 #[.pointer p, .agg (bcells j).toArray, .string cc] w fun e w' => e = .returned (.agg (bcells (Ky.secs j cc.data.toList)).toArray) ∧ I 6 w' := by
  obtain ⟨c, hc⟩ : ∃ c, c = cc.data.toList := ⟨_, rfl⟩
  rw [← hc] at hdv ⊢
  clear hc
  have HJ := Lib.hid hj
  have HH0 := Lib.hid h0
  have HHK := Lib.hid hkp
  have HHS := Lib.hid hst
  have HHR := Lib.hid hsr
  have HD := Lib.hid hdv
  have HLD := Lib.hid (fun (u : World) (b : Nat) (h : u.heap[b]? = some (.cells (bcells j).toArray 23 (0, 0))) => load_hash11 hj h)
  have HB0 := Lib.hid (fun u => build_sec0 j c hj u)
  have HI0 := Lib.hid (secInfo (Ky.flat_len hj c 0))
  have HZ0 := Lib.hid (secSize (Ky.flat_len hj c 0))
  have HA0 := Lib.hid (bcells_all (Ky.flat j c 0))
  have HIF := Lib.hid (secInfo (Ky.flat_len hj c 6))
  have HZF := Lib.hid (secSize (Ky.flat_len hj c 6))
  have HAF := Lib.hid (bcells_all (Ky.flat j c 6))
  have HLS := Lib.hid (fun (u : World) (b : Nat) (h : u.heap[b]? = some (.cells (bcells (Ky.flat j c 6)).toArray 26 (0, 0))) => load_secs (Ky.flat_len hj c 6) h)
  obtain ⟨fu, hfu⟩ : ∃ t, t = (bcells (Ky.flat j c 6)).toArray := ⟨_, rfl⟩
  have HFU : Hid (fu = (bcells (Ky.st j c 6).flatten).toArray) := Lib.hid hfu
  rw [← hfu] at HIF HZF HAF HLS
  rw [show (bcells (Ky.secs j c)).toArray = fu from hfu.symm]
  obtain ⟨f0, hf0⟩ : ∃ t, t = (bcells (Ky.flat j c 0)).toArray := ⟨_, rfl⟩
  have HF0 : Hid (f0 = (bcells (Ky.st j c 0).flatten).toArray) := Lib.hid hf0
  rw [← hf0] at HB0 HI0 HZ0 HA0
  obtain ⟨kc, hkc⟩ : ∃ t, t = (bcells j).toArray := ⟨_, rfl⟩
  rw [← hkc] at HLD HB0 ⊢
  clear hj h0 hkp hst hsr hdv hfu hf0 hkc
  go_enter Tryd.func10, Tryd.ntmps10
  go_upto_region 0 with fail
  refine wp_region_lit ?_
  refine @BigFrame.wpList_want _ _ _ _ _ _ _ ?hw95001 ?_
  case hw95001 => kernel_rfl
  intro K hK
  go_simp
  refine hK _ _ ?_
  clear hK K
  have kn : Kept w.heap.size w.heap.size w (w.alloc (.cells kc 23)) := (Kept.refl _ _ _).alloc (Nat.le_refl _) _
  have rpb := heap_new w (.cells kc 23)
  have Kw1 := kn
  generalize w.alloc (.cells kc 23) = w1 at kn rpb Kw1  ⊢
  obtain ⟨pb, hpb⟩ : ∃ n, n = w.heap.size := ⟨_, rfl⟩
  rw [← hpb] at rpb
  (try rw [← hpb])
  clear hpb kn
  refine @wpL_alloc _ _ _ _ _ _ _ _ ?hw95002 26 rfl _ (alloc_secs _) ?_
  case hw95002 => kernel_rfl
  simp only [Act.put, List.setIfInBounds_toArray, List.set_cons_zero, List.set_cons_succ]
  have kn : Kept w1.heap.size w1.heap.size w1 (w1.alloc (.cells zeros224 26)) := (Kept.refl _ _ _).alloc (Nat.le_refl _) _
  have rrb := heap_new w1 (.cells zeros224 26)
  replace rpb := row_kept rpb kn
  have Kw2 := Kw1.onto kn
  have HRB : Hid (w.heap.size ≤ w1.heap.size) := Lib.hid (Kw1.size)
  generalize w1.alloc (.cells zeros224 26) = w2 at kn rrb Kw2 rpb ⊢
  obtain ⟨rb, hrb⟩ : ∃ n, n = w1.heap.size := ⟨_, rfl⟩
  rw [← hrb] at rrb HRB
  (try rw [← hrb])
  clear hrb kn Kw1
  have Rpb := Lib.hid rpb
  clear rpb
  have Rrb := Lib.hid rrb
  clear rrb
  have KW := Lib.hid Kw2
  clear Kw2
  go_upto_region 1 with fail
  refine wp_region_lit ?_
  refine @wpList_load_known _ _ _ _ _ _ _ ?hw95003 23 (.tmp 4) rfl (pb) (0) rfl (.agg kc) (HLD.out _ _ Rpb.out) ?_
  case hw95003 => kernel_rfl
  simp only [Act.put, List.setIfInBounds_toArray, List.set_cons_zero, List.set_cons_succ]
  refine @wpL_buildN _ _ _ _ _ _ _ ?hw95004 26 _ rfl #[(0, .agg kc)] (by simp only [List.map_toArray, List.map_cons, List.map_nil]; rfl) _ (HB0.out _) ?_
  case hw95004 => kernel_rfl
  simp only [Act.put, List.setIfInBounds_toArray, List.set_cons_zero, List.set_cons_succ]
  refine @wpL_alloc _ _ _ _ _ _ _ _ ?hw95005 26 rfl _ (alloc_secs _) ?_
  case hw95005 => kernel_rfl
  simp only [Act.put, List.setIfInBounds_toArray, List.set_cons_zero, List.set_cons_succ]
  refine wpList_store_row rfl 26 _ _ rfl (w2.heap.size) f0 rfl rfl 26 zeros224 (heap_new _ _) (HI0.out) (HZ0.out) (HA0.out) ?_
  simp only [Act.put]
  rw [World.setRow_alloc_new]
  have kb : Kept w2.heap.size w2.heap.size w2 (w2.alloc (.cells f0 26)) := (Kept.refl _ _ _).alloc (Nat.le_refl _) _
  have r3 := heap_new w2 (.cells f0 26)
  have R3 : Hid ((w2.alloc (.cells f0 26)).heap[rb]? = some (.cells zeros224 26 (0, 0))) := Lib.hid (row_kept Rrb.out kb)
  have NSB : Hid (rb ≠ w2.heap.size) := Lib.hid (Nat.ne_of_lt (lt_of_block Rrb.out))
  have HSB : Hid (w.heap.size ≤ w2.heap.size) := Lib.hid KW.out.size
  have I3 := Lib.hid (HH0.out _ (KW.out.onto kb))
  clear kb Rpb KW
  clear Rrb
  generalize w2.alloc (.cells f0 26) = w3 at r3 R3 I3 ⊢
  generalize w2.heap.size = sb at r3 NSB HSB ⊢
  have S3 := Lib.hid (HF0.out ▸ r3)
  clear r3
  go_upto_region 2 with fail
  refine wp_region_lit ?_
  refine @BigFrame.wpList_want _ _ _ _ _ _ _ ?hw95006 ?_
  case hw95006 => kernel_rfl
  intro K hK
  go_simp
  refine hK _ _ ?_
  clear hK K
  refine @BigFrame.wpList_want _ _ _ _ _ _ _ ?hw95007 ?_
  case hw95007 => kernel_rfl
  intro K hK
  go_simp
  refine hK _ _ ?_
  clear hK K
  refine @wpL_buildN _ _ _ _ _ _ _ ?hw95008 60 _ rfl #[(0, .pointer (some ⟨sb, 0, none⟩)), (1, .string ⟨#[119, 101, 108, 99, 111, 109, 101]⟩), (2, .string ⟨#[]⟩), (3, .pointer (some ⟨sb, 32, none⟩))] (by simp only [List.map_toArray, List.map_cons, List.map_nil]; rfl) _ (build_step _ _ _ _ _ _) ?_
  case hw95008 => kernel_rfl
  simp only [Act.put, List.setIfInBounds_toArray, List.set_cons_zero, List.set_cons_succ]
  refine @BigFrame.wpList_want _ _ _ _ _ _ _ ?hw95009 ?_
  case hw95009 => kernel_rfl
  intro K hK
  go_simp
  refine hK _ _ ?_
  clear hK K
  refine @BigFrame.wpList_want _ _ _ _ _ _ _ ?hw95010 ?_
  case hw95010 => kernel_rfl
  intro K hK
  go_simp
  refine hK _ _ ?_
  clear hK K
  refine @BigFrame.wpList_want _ _ _ _ _ _ _ ?hw95011 ?_
  case hw95011 => kernel_rfl
  intro K hK
  go_simp
  refine hK _ _ ?_
  clear hK K
  refine @wpL_buildN _ _ _ _ _ _ _ ?hw95012 60 _ rfl #[(0, .pointer (some ⟨sb, 0, none⟩)), (1, .string ⟨#[101, 112, 111, 99, 104]⟩), (2, .string cc), (3, .pointer (some ⟨sb, 64, none⟩))] (by simp only [List.map_toArray, List.map_cons, List.map_nil]; rfl) _ (build_step _ _ _ _ _ _) ?_
  case hw95012 => kernel_rfl
  simp only [Act.put, List.setIfInBounds_toArray, List.set_cons_zero, List.set_cons_succ]
  refine @BigFrame.wpList_want _ _ _ _ _ _ _ ?hw95013 ?_
  case hw95013 => kernel_rfl
  intro K hK
  go_simp
  refine hK _ _ ?_
  clear hK K
  refine @BigFrame.wpList_want _ _ _ _ _ _ _ ?hw95014 ?_
  case hw95014 => kernel_rfl
  intro K hK
  go_simp
  refine hK _ _ ?_
  clear hK K
  refine @wpL_buildN _ _ _ _ _ _ _ ?hw95015 60 _ rfl #[(0, .pointer (some ⟨sb, 64, none⟩)), (1, .string ⟨#[105, 110, 105, 116]⟩), (2, .string ⟨#[]⟩), (3, .pointer (some ⟨sb, 96, none⟩))] (by simp only [List.map_toArray, List.map_cons, List.map_nil]; rfl) _ (build_step _ _ _ _ _ _) ?_
  case hw95015 => kernel_rfl
  simp only [Act.put, List.setIfInBounds_toArray, List.set_cons_zero, List.set_cons_succ]
  refine @BigFrame.wpList_want _ _ _ _ _ _ _ ?hw95016 ?_
  case hw95016 => kernel_rfl
  intro K hK
  go_simp
  refine hK _ _ ?_
  clear hK K
  refine @BigFrame.wpList_want _ _ _ _ _ _ _ ?hw95017 ?_
  case hw95017 => kernel_rfl
  intro K hK
  go_simp
  refine hK _ _ ?_
  clear hK K
  refine @wpL_buildN _ _ _ _ _ _ _ ?hw95018 60 _ rfl #[(0, .pointer (some ⟨sb, 64, none⟩)), (1, .string ⟨#[99, 111, 110, 102, 105, 114, 109]⟩), (2, .string ⟨#[]⟩), (3, .pointer (some ⟨sb, 128, none⟩))] (by simp only [List.map_toArray, List.map_cons, List.map_nil]; rfl) _ (build_step _ _ _ _ _ _) ?_
  case hw95018 => kernel_rfl
  simp only [Act.put, List.setIfInBounds_toArray, List.set_cons_zero, List.set_cons_succ]
  refine @BigFrame.wpList_want _ _ _ _ _ _ _ ?hw95019 ?_
  case hw95019 => kernel_rfl
  intro K hK
  go_simp
  refine hK _ _ ?_
  clear hK K
  refine @BigFrame.wpList_want _ _ _ _ _ _ _ ?hw95020 ?_
  case hw95020 => kernel_rfl
  intro K hK
  go_simp
  refine hK _ _ ?_
  clear hK K
  refine @wpL_buildN _ _ _ _ _ _ _ ?hw95021 60 _ rfl #[(0, .pointer (some ⟨sb, 64, none⟩)), (1, .string ⟨#[97, 112, 112, 115]⟩), (2, .string ⟨#[]⟩), (3, .pointer (some ⟨sb, 160, none⟩))] (by simp only [List.map_toArray, List.map_cons, List.map_nil]; rfl) _ (build_step _ _ _ _ _ _) ?_
  case hw95021 => kernel_rfl
  simp only [Act.put, List.setIfInBounds_toArray, List.set_cons_zero, List.set_cons_succ]
  refine @BigFrame.wpList_want _ _ _ _ _ _ _ ?hw95022 ?_
  case hw95022 => kernel_rfl
  intro K hK
  go_simp
  refine hK _ _ ?_
  clear hK K
  refine @BigFrame.wpList_want _ _ _ _ _ _ _ ?hw95023 ?_
  case hw95023 => kernel_rfl
  intro K hK
  go_simp
  refine hK _ _ ?_
  clear hK K
  refine @wpL_buildN _ _ _ _ _ _ _ ?hw95024 60 _ rfl #[(0, .pointer (some ⟨sb, 64, none⟩)), (1, .string ⟨#[101, 120, 112, 111, 114, 116]⟩), (2, .string ⟨#[]⟩), (3, .pointer (some ⟨sb, 192, none⟩))] (by simp only [List.map_toArray, List.map_cons, List.map_nil]; rfl) _ (build_step _ _ _ _ _ _) ?_
  case hw95024 => kernel_rfl
  simp only [Act.put, List.setIfInBounds_toArray, List.set_cons_zero, List.set_cons_succ]
  refine @wpL_buildN _ _ _ _ _ _ _ ?hw95025 61 _ rfl #[(0, .agg #[.pointer (some ⟨sb, 0, none⟩), .string ⟨#[119, 101, 108, 99, 111, 109, 101]⟩, .string ⟨#[]⟩, .pointer (some ⟨sb, 32, none⟩)]), (1, .agg #[.pointer (some ⟨sb, 0, none⟩), .string ⟨#[101, 112, 111, 99, 104]⟩, .string cc, .pointer (some ⟨sb, 64, none⟩)]), (2, .agg #[.pointer (some ⟨sb, 64, none⟩), .string ⟨#[105, 110, 105, 116]⟩, .string ⟨#[]⟩, .pointer (some ⟨sb, 96, none⟩)]), (3, .agg #[.pointer (some ⟨sb, 64, none⟩), .string ⟨#[99, 111, 110, 102, 105, 114, 109]⟩, .string ⟨#[]⟩, .pointer (some ⟨sb, 128, none⟩)]), (4, .agg #[.pointer (some ⟨sb, 64, none⟩), .string ⟨#[97, 112, 112, 115]⟩, .string ⟨#[]⟩, .pointer (some ⟨sb, 160, none⟩)]), (5, .agg #[.pointer (some ⟨sb, 64, none⟩), .string ⟨#[101, 120, 112, 111, 114, 116]⟩, .string ⟨#[]⟩, .pointer (some ⟨sb, 192, none⟩)])] (by simp only [List.map_toArray, List.map_cons, List.map_nil]; rfl) _ (build_steps sb cc _) ?_
  case hw95025 => kernel_rfl
  simp only [Act.put, List.setIfInBounds_toArray, List.set_cons_zero, List.set_cons_succ]
  refine @BigFrame.wpList_want _ _ _ _ _ _ _ ?hw95026 ?_
  case hw95026 => kernel_rfl
  intro K hK
  go_simp
  refine hK _ _ ?_
  clear hK K
  go_wp2
  go_loopw [32] (fun s32 wr => ∃ i : Nat, s32 = .int .i64 (i : Int) ∧ Hid (i ≤ 6) ∧ Hid (I i wr) ∧ Hid (wr.heap[sb]? = some (.cells (bcells (Ky.st j c i).flatten).toArray 26 (0, 0))) ∧ Hid (wr.heap[rb]? = some (.cells zeros224 26 (0, 0)))) (fun s32 _ => 6 - (RowKit.intOf s32).toNat)
  case atStart => exact ⟨0, rfl, Lib.hid (Nat.zero_le _), I3, S3, R3⟩
  case round =>
    obtain ⟨i, rfl, hi, HI, HS, HR⟩ := hrel
    by_cases hlt : i < 6
    · have hlti : (i : Int) < 6 := by omega
      have HLT := Lib.hid hlt
      have HIX := Lib.hid (index_steps sb cc i hlt wr)
      have HKL := Lib.hid (Ky.key_length HJ.out c (Ky.src i))
      have HSR := Lib.hid (Ky.st_src j c i hlt)
      obtain ⟨la, hla⟩ : ∃ t, t = Ky.lab i := ⟨_, rfl⟩
      obtain ⟨xx, hxx⟩ : ∃ t, t = Ky.cx cc i := ⟨_, rfl⟩
      obtain ⟨so, hso⟩ : ∃ t, t = 32 * Ky.src i := ⟨_, rfl⟩
      obtain ⟨mo, hmo⟩ : ∃ t, t = 32 * (i + 1) := ⟨_, rfl⟩
      have HMO := Lib.hid hmo
      have HSO := Lib.hid hso
      have HDV := Lib.hid (HD.out i hlt)
      rw [← hla, ← hxx, ← hso, ← hmo] at HIX
      rw [← hla, ← hxx] at HDV
      obtain ⟨kc1, hkc1⟩ : ∃ t, t = (bcells (Ky.key j c (Ky.src i))).toArray := ⟨_, rfl⟩
      obtain ⟨cu, hcu⟩ : ∃ t, t = (bcells (Ky.key j c (i + 1))).toArray := ⟨_, rfl⟩
      have HKC := Lib.hid hkc1
      have HCU := Lib.hid hcu
      rw [← hkc1, ← hcu] at HDV
      have hla32 := Ky.key_length HJ.out c (i + 1)
      have HIU := Lib.hid (show (Tryd.prog.info? 23).map (·.size) = some cu.size by rw [HCU.out]; exact keyInfo11 hla32)
      have HAU := Lib.hid (show cu.all (·.oneCell') = true by rw [HCU.out]; exact bcells_all _)
      have HCS := Lib.hid (show cu.size = 32 by rw [HCU.out, List.size_toArray, bcells_length, hla32])
      have HL7 := Lib.hid (Ky.st_length j c i)
      clear hla hxx hso hmo hkc1 hcu hla32 hlt
      go_upto_region 4 with fail
      refine wp_region_lit ?_
      refine @wpL_indexN _ _ _ _ _ _ _ ?hw95027 61 _ _ rfl _ _ rfl rfl _ HIX.out ?_
      case hw95027 => kernel_rfl
      simp only [Act.put, List.setIfInBounds_toArray, List.set_cons_zero, List.set_cons_succ]
      refine @wpL_alloc _ _ _ _ _ _ _ _ ?hw95028 60 rfl _ (alloc_step _) ?_
      case hw95028 => kernel_rfl
      simp only [Act.put, List.setIfInBounds_toArray, List.set_cons_zero, List.set_cons_succ]
      refine wpList_store_row rfl 60 _ _ rfl (wr.heap.size) #[.pointer (some ⟨sb, so, none⟩), .string la, .string xx, .pointer (some ⟨sb, mo, none⟩)] rfl rfl 60 Ky.zstep (heap_new _ _) (stepInfo _ _ _ _) (rfl) ((by kernel_rfl)) ?_
      simp only [Act.put]
      rw [World.setRow_alloc_new]
      have k4 : Kept wr.heap.size wr.heap.size wr (wr.alloc (.cells #[.pointer (some ⟨sb, so, none⟩), .string la, .string xx, .pointer (some ⟨sb, mo, none⟩)] 60)) := (Kept.refl _ _ _).alloc (Nat.le_refl _) _
      have T4 := Lib.hid (heap_new wr (.cells #[.pointer (some ⟨sb, so, none⟩), .string la, .string xx, .pointer (some ⟨sb, mo, none⟩)] 60))
      have S4 := Lib.hid (row_kept HS.out k4)
      have R4 := Lib.hid (row_kept HR.out k4)
      have I4 := Lib.hid (HHK.out i _ _ HI.out k4)
      clear k4 HIX HS HR HI
      generalize wr.alloc (.cells #[.pointer (some ⟨sb, so, none⟩), .string la, .string xx, .pointer (some ⟨sb, mo, none⟩)] 60) = w4 at T4 S4 R4 I4 ⊢
      generalize wr.heap.size = tb at T4 ⊢
      have kd : Kept w4.heap.size w4.heap.size w4 w4.drew := (Kept.refl _ _ _).drew
      have hS0 : w4.drew.heap[tb]? = some (.cells #[.pointer (some ⟨sb, so, none⟩), .string la, .string xx, .pointer (some ⟨sb, mo, none⟩)] 60 (0, 0)) ∧ w4.drew.heap[sb]? = some (.cells (bcells (Ky.st j c i).flatten).toArray 26 (0, 0)) ∧ w4.drew.heap[rb]? = some (.cells zeros224 26 (0, 0)) := ⟨T4.out, S4.out, R4.out⟩
      have ID := Lib.hid (HHK.out i _ _ I4.out kd)
      clear kd T4 S4 R4 I4
      generalize hwd : w4.drew = wd at hS0 ID
      have HS0 := Lib.hid hS0
      clear hS0
      have HDR := Lib.hid (HDV.out wd ID.out)
      clear HDV ID
      obtain ⟨rw0, hrw0⟩ : ∃ t, t = (bcells (Ky.st j c i).flatten).toArray := ⟨_, rfl⟩
      have HRW := Lib.hid hrw0
      rw [← hrw0] at HS0
      have HLK := Lib.hid (fun (x : World) (h : x.heap[tb]? = some (.cells #[.pointer (some ⟨sb, so, none⟩), .string la, .string xx, .pointer (some ⟨sb, mo, none⟩)] 60 (0, 0)) ∧ x.heap[sb]? = some (.cells rw0 26 (0, 0)) ∧ x.heap[rb]? = some (.cells zeros224 26 (0, 0))) => (show (loadVar 23 ⟨sb, so, none⟩).run Tryd.prog x = .ok (.agg kc1) x by
        rw [HSO.out, HKC.out]
        exact load_sec (Ky.st_all HJ.out c i) (by have := h.2.1; rw [HRW.out] at this; exact this) _ _ HSR.out))
      have HTC := Lib.hid (fun (x : World) (h : x.heap[tb]? = some (.cells #[.pointer (some ⟨sb, so, none⟩), .string la, .string xx, .pointer (some ⟨sb, mo, none⟩)] 60 (0, 0)) ∧ x.heap[sb]? = some (.cells rw0 26 (0, 0)) ∧ x.heap[rb]? = some (.cells zeros224 26 (0, 0))) => step_cells h.1)
      clear hrw0
      go_upto_region 5 with fail
      refine wp_region_noPanic ?_
      refine wp_region_heldTo 13 (S := fun x => x.heap[tb]? = some (.cells #[.pointer (some ⟨sb, so, none⟩), .string la, .string xx, .pointer (some ⟨sb, mo, none⟩)] 60 (0, 0)) ∧ x.heap[sb]? = some (.cells rw0 26 (0, 0)) ∧ x.heap[rb]? = some (.cells zeros224 26 (0, 0))) (by kernel_rfl) (by rw [hwd]; exact HS0.out) (fun hH => ?_)
      rw [hwd] at hH ⊢
      clear hwd
      refine heldTo_take_ex (i := 0) 35 rfl rfl (by kernel_rfl) (by kernel_rfl) (by kernel_rfl) (by kernel_rfl) (fun _ _ _ _ h => h) (by kernel_rfl) hH ?_
      apply Exists.intro
      apply And.intro
      · intro w9 h9
        go_simp
        first | done | rfl
      simp only [List.setIfInBounds_toArray, List.set_cons_zero, List.set_cons_succ]
      refine heldTo_take_ex (i := 1) 36 rfl rfl (by kernel_rfl) (by kernel_rfl) (by kernel_rfl) (by kernel_rfl) (fun _ _ _ _ h => h) (by kernel_rfl) hH ?_
      apply Exists.intro
      apply And.intro
      · intro w9 h9
        obtain ⟨c0, c1, c2, c3⟩ := HTC.out w9 h9
        go_simp
        first | done | rfl
      simp only [List.setIfInBounds_toArray, List.set_cons_zero, List.set_cons_succ]
      refine heldTo_take_ex (i := 2) 37 rfl rfl (by kernel_rfl) (by kernel_rfl) (by kernel_rfl) (by kernel_rfl) (fun _ _ _ _ h => h) (by kernel_rfl) hH ?_
      apply Exists.intro
      apply And.intro
      · intro w9 h9
        go_simp
        first | done | rfl
      simp only [List.setIfInBounds_toArray, List.set_cons_zero, List.set_cons_succ]
      refine heldTo_take_ex (i := 3) 38 rfl rfl (by kernel_rfl) (by kernel_rfl) (by kernel_rfl) (by kernel_rfl) (fun _ _ _ _ h => h) (by kernel_rfl) hH ?_
      apply Exists.intro
      apply And.intro
      · intro w9 h9
        go_simp
        first | done | rfl
      simp only [List.setIfInBounds_toArray, List.set_cons_zero, List.set_cons_succ]
      refine heldTo_take_ex (i := 4) 39 rfl rfl (by kernel_rfl) (by kernel_rfl) (by kernel_rfl) (by kernel_rfl) (fun _ _ _ _ h => h) (by kernel_rfl) hH ?_
      apply Exists.intro
      apply And.intro
      · intro w9 h9
        obtain ⟨c0, c1, c2, c3⟩ := HTC.out w9 h9
        go_simp
        first | done | rfl
      simp only [List.setIfInBounds_toArray, List.set_cons_zero, List.set_cons_succ]
      refine heldTo_take_ex (i := 5) 40 rfl rfl (by kernel_rfl) (by kernel_rfl) (by kernel_rfl) (by kernel_rfl) (fun _ _ _ _ h => h) (by kernel_rfl) hH ?_
      apply Exists.intro
      apply And.intro
      · intro w9 h9
        go_simp
        first | done | rfl
      simp only [List.setIfInBounds_toArray, List.set_cons_zero, List.set_cons_succ]
      refine heldTo_take (i := 6) 41 (.agg kc1) rfl rfl (by kernel_rfl) (by kernel_rfl) (by kernel_rfl) (by kernel_rfl) (fun _ _ _ h => h) (yieldsIf_load_known (by kernel_rfl) 23 _ rfl (sb) (so) rfl (.agg kc1) (HLK.out)) hH ?_
      simp only [List.setIfInBounds_toArray, List.set_cons_zero, List.set_cons_succ]
      refine heldTo_take_ex (i := 7) 42 rfl rfl (by kernel_rfl) (by kernel_rfl) (by kernel_rfl) (by kernel_rfl) (fun _ _ _ _ h => h) (by kernel_rfl) hH ?_
      apply Exists.intro
      apply And.intro
      · intro w9 h9
        go_simp
        first | done | rfl
      simp only [List.setIfInBounds_toArray, List.set_cons_zero, List.set_cons_succ]
      refine heldTo_take_ex (i := 8) 43 rfl rfl (by kernel_rfl) (by kernel_rfl) (by kernel_rfl) (by kernel_rfl) (fun _ _ _ _ h => h) (by kernel_rfl) hH ?_
      apply Exists.intro
      apply And.intro
      · intro w9 h9
        obtain ⟨c0, c1, c2, c3⟩ := HTC.out w9 h9
        go_simp
        first | done | rfl
      simp only [List.setIfInBounds_toArray, List.set_cons_zero, List.set_cons_succ]
      refine heldTo_take_ex (i := 9) 44 rfl rfl (by kernel_rfl) (by kernel_rfl) (by kernel_rfl) (by kernel_rfl) (fun _ _ _ _ h => h) (by kernel_rfl) hH ?_
      apply Exists.intro
      apply And.intro
      · intro w9 h9
        go_simp
        first | done | rfl
      simp only [List.setIfInBounds_toArray, List.set_cons_zero, List.set_cons_succ]
      refine heldTo_take_ex (i := 10) 45 rfl rfl (by kernel_rfl) (by kernel_rfl) (by kernel_rfl) (by kernel_rfl) (fun _ _ _ _ h => h) (by kernel_rfl) hH ?_
      apply Exists.intro
      apply And.intro
      · intro w9 h9
        obtain ⟨c0, c1, c2, c3⟩ := HTC.out w9 h9
        go_simp
        first | done | rfl
      simp only [List.setIfInBounds_toArray, List.set_cons_zero, List.set_cons_succ]
      refine heldTo_one (i := 11) (by kernel_rfl) rfl (fun K hK => ?_)
      rw [if_pos (by rfl)]
      go_simp
      go_wp2_with (go_at_call 28; refine (HDR.out).mono ?_; rintro e w8 ⟨rfl, i8, s8⟩)
      have KS : w8.heap[tb]? = some (.cells #[.pointer (some ⟨sb, so, none⟩), .string la, .string xx, .pointer (some ⟨sb, mo, none⟩)] 60 (0, 0)) ∧ w8.heap[sb]? = some (.cells rw0 26 (0, 0)) ∧ w8.heap[rb]? = some (.cells zeros224 26 (0, 0)) := ⟨s8 _ _ _ _ HS0.out.1 (.inr rfl), s8 _ _ _ _ HS0.out.2.1 (.inl rfl), s8 _ _ _ _ HS0.out.2.2 (.inl rfl)⟩
      have HK8 := Lib.hid KS
      refine hK.out _ _ KS (fun hH => ?_)
      clear hK K KS
      refine heldTo_take_ex (i := 12) 47 rfl rfl (by kernel_rfl) (by kernel_rfl) (by kernel_rfl) (by kernel_rfl) (fun _ _ _ _ h => h) (by kernel_rfl) hH ?_
      apply Exists.intro
      apply And.intro
      · intro w9 h9
        go_simp
        first | done | rfl
      simp only [List.setIfInBounds_toArray, List.set_cons_zero, List.set_cons_succ]
      refine heldTo_last (by kernel_rfl) rfl (fun K hK => ?_)
      rw [if_pos (by rfl)]
      refine wp_store_mid_none11 23 _ _ rfl rfl sb mo cu rfl rfl (there_row11 HK8.out.2.1 (by rw [HRW.out, HMO.out, HCS.out, List.size_toArray, bcells_length, Ky.flat_length (Ky.st_all HJ.out c i), HL7.out]; have := HLT.out; omega)) HIU.out HAU.out ?_
      refine hK.out _ _ ?_
      clear hK K
      refine heldTo_done (by kernel_rfl) ?_ _
      refine NoPanic.normal ?_
      clear hH
      have S9 : Hid ((w8.setCells sb mo cu.toList).heap[sb]? = some (.cells (bcells (Ky.st j c (i + 1)).flatten).toArray 26 (0, 0))) := Lib.hid (by
        have h8 := HK8.out.2.1
        rw [HRW.out] at h8
        rw [HMO.out, HCU.out]
        exact sec_stored (Ky.st_all HJ.out c i) h8 (i + 1) (by rw [HL7.out]; have := HLT.out; omega) _ (Ky.key_length HJ.out c (i + 1)))
      have R9 : Hid ((w8.setCells sb mo cu.toList).heap[rb]? = some (.cells zeros224 26 (0, 0))) := Lib.hid ((setCells_other NSB.out _ _ _).trans HK8.out.2.2)
      have I9 := Lib.hid (HHS.out (i + 1) w8 sb mo cu.toList _ i8 HSB.out HK8.out.2.1)
      clear i8 s8 HK8 HDR HLK HTC HS0
      generalize w8.setCells sb mo cu.toList = w10 at S9 R9 I9 ⊢
      go_wp2
      go_roundw
      case rel => exact ⟨i + 1, by go_num, Lib.hid HLT.out, I9, S9, R9⟩
      case measure => have := HLT.out; simp [RowKit.intOf]; omega
    · have hnl : ¬ (i : Int) < 6 := by omega
      obtain rfl : i = 6 := by have := hi.out; omega
      have HSF := Lib.hid (show wr.heap[sb]? = some (.cells fu 26 (0, 0)) by rw [HFU.out]; exact HS.out)
      clear hlt hi HS
      go_upto_region 7 with fail
      refine wp_region_lit ?_
      refine @wpList_load_known _ _ _ _ _ _ _ ?hw95029 26 (.tmp 7) rfl (sb) (0) rfl (.agg fu) (HLS.out _ _ HSF.out) ?_
      case hw95029 => kernel_rfl
      simp only [Act.put, List.setIfInBounds_toArray, List.set_cons_zero, List.set_cons_succ]
      refine wpList_store_row rfl 26 _ _ rfl (rb) fu rfl rfl 26 zeros224 (HR.out) HIF.out HZF.out HAF.out ?_
      simp only [Act.put]
      have R9 := setRow_heap wr rb zeros224 fu _ _ (HR.out)
      have k9 := HHR.out 6 wr rb fu _ HI.out HRB.out HR.out
      generalize wr.setRow rb fu = w9 at R9 k9 ⊢
      go_wp2
      refine bodyPost_ret (results_cell_row rfl _ _ rb 26 fu (0, 0) _ rfl R9 Tryd.underlying26 rfl HIF.out) rfl ?_
      exact ⟨rfl, k9⟩

theorem make_nil11 (j : List UInt8) (hj : j.length = 32) (cc : ByteArray) (hc : cc.size < 268435456) (w : World) : Calls Tryd.prog 10 #[.pointer none, .agg (bcells j).toArray, .string cc] w fun e w' => e = .returned (.agg (bcells (Ky.secs j cc.data.toList)).toArray) ∧ Kept w.heap.size w.heap.size w w' := by
  refine make_any11 none j hj cc w (fun _ x => Kept w.heap.size w.heap.size w x) (fun _ k => k) (fun _ _ _ k1 k2 => k1.onto k2) (fun _ x g k vs _ kx hg _ => kept_setCells11 g hg vs k x kx) (fun _ x g vs _ kx hg _ => kept_setRow10 kx g hg vs) (fun i hi x kx => ?_)
  rw [Ky.key_step j cc i hi]
  refine (pderive_nil _ (Lib.hid (Ky.key_length hj _ _)) (Ky.lab i) (Ky.cx cc i) (Lib.hid (Nat.lt_of_le_of_lt (Ky.lab_size i) (by decide))) (Lib.hid (Nat.lt_of_le_of_lt (Ky.cx_size cc i) hc)) x).mono ?_
  rintro e w' ⟨rfl, k⟩
  exact ⟨rfl, kx.onto k, fun g cs t fr h _ => (k.block g (lt_of_block h) (Nat.ne_of_lt (lt_of_block h))).trans h⟩

end Go.Proofs.YtdfbmijbmlainaaDoor

namespace Go.Proofs.YtdfbmijbmlainaaDoor
open Go.RowKit Go.Lib

set_option maxRecDepth 100000 in
theorem alloc_rsecs (w : World) : (Instr.alloc 29 true (.tuple #[])).run Tryd.prog w = .ok (.pointer (some ⟨w.heap.size, 0, none⟩)) (w.alloc (.cells zeros224 29)) := by kernel_rfl
set_option maxRecDepth 100000 in
theorem rsecInfo {l : List UInt8} (h : l.length = 224) : (Tryd.prog.info? 29).map (·.size) = some (bcells l).toArray.size := by rw [List.size_toArray, bcells_length, h]; kernel_rfl
theorem load_rsecs {w : World} {b : Nat} {l : List UInt8} (hl : l.length = 224) (h : w.heap[b]? = some (.cells (bcells l).toArray 29 (0, 0))) : (loadVar 29 ⟨b, 0, none⟩).run Tryd.prog w = .ok (.agg (bcells l).toArray) w :=
  run_loadVar_row w b 29 29 _ (0, 0) _ h Tryd.underlying29 rfl (rsecInfo hl)
set_option maxRecDepth 100000 in
set_option maxHeartbeats 6400000 in
theorem build_rsecs (w : World) (l0 l1 l2 l3 l4 l5 l6 : List UInt8) (h0 : l0.length = 32) (h1 : l1.length = 32) (h2 : l2.length = 32) (h3 : l3.length = 32) (h4 : l4.length = 32) (h5 : l5.length = 32) (h6 : l6.length = 32) :
    (Instr.build 29 #[(0, .agg (bcells l0).toArray), (1, .agg (bcells l1).toArray), (2, .agg (bcells l2).toArray), (3, .agg (bcells l3).toArray), (4, .agg (bcells l4).toArray), (5, .agg (bcells l5).toArray), (6, .agg (bcells l6).toArray)]).run Tryd.prog w = .ok (.agg (bcells [l0, l1, l2, l3, l4, l5, l6].flatten).toArray) w := by
  revert l0
  refine ky_list32 ?_
  intro a0 a1 a2 a3 a4 a5 a6 a7 a8 a9 a10 a11 a12 a13 a14 a15 a16 a17 a18 a19 a20 a21 a22 a23 a24 a25 a26 a27 a28 a29 a30 a31
  revert l1
  refine ky_list32 ?_
  intro b0 b1 b2 b3 b4 b5 b6 b7 b8 b9 b10 b11 b12 b13 b14 b15 b16 b17 b18 b19 b20 b21 b22 b23 b24 b25 b26 b27 b28 b29 b30 b31
  revert l2
  refine ky_list32 ?_
  intro c0 c1 c2 c3 c4 c5 c6 c7 c8 c9 c10 c11 c12 c13 c14 c15 c16 c17 c18 c19 c20 c21 c22 c23 c24 c25 c26 c27 c28 c29 c30 c31
  revert l3
  refine ky_list32 ?_
  intro d0 d1 d2 d3 d4 d5 d6 d7 d8 d9 d10 d11 d12 d13 d14 d15 d16 d17 d18 d19 d20 d21 d22 d23 d24 d25 d26 d27 d28 d29 d30 d31
  revert l4
  refine ky_list32 ?_
  intro e0 e1 e2 e3 e4 e5 e6 e7 e8 e9 e10 e11 e12 e13 e14 e15 e16 e17 e18 e19 e20 e21 e22 e23 e24 e25 e26 e27 e28 e29 e30 e31
  revert l5
  refine ky_list32 ?_
  intro f0 f1 f2 f3 f4 f5 f6 f7 f8 f9 f10 f11 f12 f13 f14 f15 f16 f17 f18 f19 f20 f21 f22 f23 f24 f25 f26 f27 f28 f29 f30 f31
  revert l6
  refine ky_list32 ?_
  intro g0 g1 g2 g3 g4 g5 g6 g7 g8 g9 g10 g11 g12 g13 g14 g15 g16 g17 g18 g19 g20 g21 g22 g23 g24 g25 g26 g27 g28 g29 g30 g31
  kernel_rfl
theorem yieldsIf_buildN {P : Program} {ops : Array Oper} {S : World → Prop} {op : Oper} {a : Act} (hw : Region.wanted op (yielded ops a.tmps) = true) (t : TypeId) (xs : Array (Nat × Operand)) (ho : op.op = .build t xs) (vs : Array (Nat × Value)) (hv : (xs.map fun (i, x) => (i, a.eval x)) = vs) (u : Value) (hr : ∀ w, (Instr.build t vs).run P w = .ok u w) : YieldsIf P ops S op u a := by
  subst hv
  exact .inl ⟨hw, fun w _ => by
    unfold execOp
    simp only [ho, Sem.run_bind, hr, Result.andThen_ok, Sem.run_pure]⟩

set_option maxRecDepth 100000 in
set_option maxHeartbeats 6400000 in
theorem refmake_calls11 (j : List UInt8) (hj : j.length = 32) (cc : ByteArray) (hc : cc.size ≤ 8000) (w : World) : Calls Tryd.prog 11 #[.agg (bcells j).toArray, .string cc] w fun e w' => e = .returned (.agg (bcells (Ky.secs j cc.data.toList)).toArray) ∧ Kept w.heap.size w.heap.size w w' := by
  have HD1 := Lib.hid (fun u => (show Calls Tryd.prog 29 #[.agg (bcells (Ky.key j cc.data.toList 0)).toArray, .string ⟨#[119, 101, 108, 99, 111, 109, 101]⟩, .string ⟨#[]⟩] u fun e w' => e = .returned (.agg (bcells (Ky.key j cc.data.toList 1)).toArray) ∧ Kept u.heap.size u.heap.size u w' from by
    have := refderive_calls (Ky.key j cc.data.toList 0) (Lib.hid (Ky.key_length hj _ _)) ⟨#[119, 101, 108, 99, 111, 109, 101]⟩ ⟨#[]⟩ (Lib.hid (by decide)) (Lib.hid (by decide)) u
    rw [show Mc.derive (Ky.key j cc.data.toList 0) (⟨#[119, 101, 108, 99, 111, 109, 101]⟩ : ByteArray).data.toList (⟨#[]⟩ : ByteArray).data.toList = Ky.key j cc.data.toList 1 from rfl] at this
    exact this))
  have HD2 := Lib.hid (fun u => (show Calls Tryd.prog 29 #[.agg (bcells (Ky.key j cc.data.toList 0)).toArray, .string ⟨#[101, 112, 111, 99, 104]⟩, .string cc] u fun e w' => e = .returned (.agg (bcells (Ky.key j cc.data.toList 2)).toArray) ∧ Kept u.heap.size u.heap.size u w' from by
    have := refderive_calls (Ky.key j cc.data.toList 0) (Lib.hid (Ky.key_length hj _ _)) ⟨#[101, 112, 111, 99, 104]⟩ cc (Lib.hid (by decide)) (Lib.hid (hc)) u
    rw [show Mc.derive (Ky.key j cc.data.toList 0) (⟨#[101, 112, 111, 99, 104]⟩ : ByteArray).data.toList (cc : ByteArray).data.toList = Ky.key j cc.data.toList 2 from rfl] at this
    exact this))
  have HD3 := Lib.hid (fun u => (show Calls Tryd.prog 29 #[.agg (bcells (Ky.key j cc.data.toList 2)).toArray, .string ⟨#[105, 110, 105, 116]⟩, .string ⟨#[]⟩] u fun e w' => e = .returned (.agg (bcells (Ky.key j cc.data.toList 3)).toArray) ∧ Kept u.heap.size u.heap.size u w' from by
    have := refderive_calls (Ky.key j cc.data.toList 2) (Lib.hid (Ky.key_length hj _ _)) ⟨#[105, 110, 105, 116]⟩ ⟨#[]⟩ (Lib.hid (by decide)) (Lib.hid (by decide)) u
    rw [show Mc.derive (Ky.key j cc.data.toList 2) (⟨#[105, 110, 105, 116]⟩ : ByteArray).data.toList (⟨#[]⟩ : ByteArray).data.toList = Ky.key j cc.data.toList 3 from rfl] at this
    exact this))
  have HD4 := Lib.hid (fun u => (show Calls Tryd.prog 29 #[.agg (bcells (Ky.key j cc.data.toList 2)).toArray, .string ⟨#[99, 111, 110, 102, 105, 114, 109]⟩, .string ⟨#[]⟩] u fun e w' => e = .returned (.agg (bcells (Ky.key j cc.data.toList 4)).toArray) ∧ Kept u.heap.size u.heap.size u w' from by
    have := refderive_calls (Ky.key j cc.data.toList 2) (Lib.hid (Ky.key_length hj _ _)) ⟨#[99, 111, 110, 102, 105, 114, 109]⟩ ⟨#[]⟩ (Lib.hid (by decide)) (Lib.hid (by decide)) u
    rw [show Mc.derive (Ky.key j cc.data.toList 2) (⟨#[99, 111, 110, 102, 105, 114, 109]⟩ : ByteArray).data.toList (⟨#[]⟩ : ByteArray).data.toList = Ky.key j cc.data.toList 4 from rfl] at this
    exact this))
  have HD5 := Lib.hid (fun u => (show Calls Tryd.prog 29 #[.agg (bcells (Ky.key j cc.data.toList 2)).toArray, .string ⟨#[97, 112, 112, 115]⟩, .string ⟨#[]⟩] u fun e w' => e = .returned (.agg (bcells (Ky.key j cc.data.toList 5)).toArray) ∧ Kept u.heap.size u.heap.size u w' from by
    have := refderive_calls (Ky.key j cc.data.toList 2) (Lib.hid (Ky.key_length hj _ _)) ⟨#[97, 112, 112, 115]⟩ ⟨#[]⟩ (Lib.hid (by decide)) (Lib.hid (by decide)) u
    rw [show Mc.derive (Ky.key j cc.data.toList 2) (⟨#[97, 112, 112, 115]⟩ : ByteArray).data.toList (⟨#[]⟩ : ByteArray).data.toList = Ky.key j cc.data.toList 5 from rfl] at this
    exact this))
  have HD6 := Lib.hid (fun u => (show Calls Tryd.prog 29 #[.agg (bcells (Ky.key j cc.data.toList 2)).toArray, .string ⟨#[101, 120, 112, 111, 114, 116]⟩, .string ⟨#[]⟩] u fun e w' => e = .returned (.agg (bcells (Ky.key j cc.data.toList 6)).toArray) ∧ Kept u.heap.size u.heap.size u w' from by
    have := refderive_calls (Ky.key j cc.data.toList 2) (Lib.hid (Ky.key_length hj _ _)) ⟨#[101, 120, 112, 111, 114, 116]⟩ ⟨#[]⟩ (Lib.hid (by decide)) (Lib.hid (by decide)) u
    rw [show Mc.derive (Ky.key j cc.data.toList 2) (⟨#[101, 120, 112, 111, 114, 116]⟩ : ByteArray).data.toList (⟨#[]⟩ : ByteArray).data.toList = Ky.key j cc.data.toList 6 from rfl] at this
    exact this))
  have HBU := Lib.hid (fun u => build_rsecs u _ _ _ _ _ _ _ hj (Ky.key_length hj cc.data.toList 1) (Ky.key_length hj cc.data.toList 2) (Ky.key_length hj cc.data.toList 3) (Ky.key_length hj cc.data.toList 4) (Ky.key_length hj cc.data.toList 5) (Ky.key_length hj cc.data.toList 6))
  rw [show [j, Ky.key j cc.data.toList 1, Ky.key j cc.data.toList 2, Ky.key j cc.data.toList 3, Ky.key j cc.data.toList 4, Ky.key j cc.data.toList 5, Ky.key j cc.data.toList 6].flatten = Ky.secs j cc.data.toList from rfl] at HBU
  have hfl : (Ky.secs j cc.data.toList).length = 224 := Ky.flat_len hj _ 6
  have HIF := Lib.hid (rsecInfo hfl)
  have HZF := Lib.hid (secSize hfl)
  have HAF := Lib.hid (bcells_all (Ky.secs j cc.data.toList))
  have hel := Ky.key_length hj cc.data.toList 2
  have HIE := Lib.hid (keyInfo22 hel)
  have HZE := Lib.hid (keySize11 hel)
  have HAE := Lib.hid (bcells_all (Ky.key j cc.data.toList 2))
  have HLD := Lib.hid (fun (u : World) (b : Nat) (h : u.heap[b]? = some (.cells (bcells j).toArray 22 (0, 0))) => load_arr11 hj h)
  have HLE := Lib.hid (fun (u : World) (b : Nat) (h : u.heap[b]? = some (.cells (bcells (Ky.key j cc.data.toList 2)).toArray 22 (0, 0))) => load_arr11 hel h)
  rw [show Ky.key j cc.data.toList 0 = j from rfl] at HD1 HD2
  generalize (bcells (Ky.secs j cc.data.toList)).toArray = fu at HBU HIF HZF HAF ⊢
  generalize (bcells (Ky.key j cc.data.toList 1)).toArray = x1 at HD1 HBU
  generalize (bcells (Ky.key j cc.data.toList 2)).toArray = ec at HD2 HD3 HD4 HD5 HD6 HBU HIE HZE HAE HLE
  generalize (bcells (Ky.key j cc.data.toList 3)).toArray = x3 at HD3 HBU
  generalize (bcells (Ky.key j cc.data.toList 4)).toArray = x4 at HD4 HBU
  generalize (bcells (Ky.key j cc.data.toList 5)).toArray = x5 at HD5 HBU
  generalize (bcells (Ky.key j cc.data.toList 6)).toArray = x6 at HD6 HBU
  generalize (bcells j).toArray = kc at HD1 HD2 HBU HLD ⊢
  clear hfl hel hj hc
  go_enter Tryd.func11, Tryd.ntmps11
  go_upto_region 0 with fail
  refine wp_region_lit ?_
  refine @BigFrame.wpList_want _ _ _ _ _ _ _ ?hw96001 ?_
  case hw96001 => kernel_rfl
  intro K hK
  go_simp
  refine hK _ _ ?_
  clear hK K
  have kn : Kept w.heap.size w.heap.size w (w.alloc (.cells kc 22)) := (Kept.refl _ _ _).alloc (Nat.le_refl _) _
  have rpb := heap_new w (.cells kc 22)
  have Kw1 := kn
  generalize w.alloc (.cells kc 22) = w1 at kn rpb Kw1  ⊢
  obtain ⟨pb, hpb⟩ : ∃ n, n = w.heap.size := ⟨_, rfl⟩
  rw [← hpb] at rpb
  (try rw [← hpb])
  clear hpb kn
  refine @wpL_alloc _ _ _ _ _ _ _ _ ?hw96002 29 rfl _ (alloc_rsecs _) ?_
  case hw96002 => kernel_rfl
  simp only [Act.put, List.setIfInBounds_toArray, List.set_cons_zero, List.set_cons_succ]
  have kn : Kept w1.heap.size w1.heap.size w1 (w1.alloc (.cells zeros224 29)) := (Kept.refl _ _ _).alloc (Nat.le_refl _) _
  have rrb := heap_new w1 (.cells zeros224 29)
  replace rpb := row_kept rpb kn
  have Kw2 := Kw1.onto kn
  have HRB : Hid (w.heap.size ≤ w1.heap.size) := Lib.hid (Kw1.size)
  generalize w1.alloc (.cells zeros224 29) = w2 at kn rrb Kw2 rpb ⊢
  obtain ⟨rb, hrb⟩ : ∃ n, n = w1.heap.size := ⟨_, rfl⟩
  rw [← hrb] at rrb HRB
  (try rw [← hrb])
  clear hrb kn Kw1
  have Rpb := Lib.hid rpb
  clear rpb
  have Rrb := Lib.hid rrb
  clear rrb
  have KW := Lib.hid Kw2
  clear Kw2
  go_upto_region 1 with fail
  refine wp_region_lit ?_
  refine @wpList_load_known _ _ _ _ _ _ _ ?hw96004 22 (.tmp 2) rfl (pb) (0) rfl (.agg kc) (HLD.out _ _ Rpb.out) ?_
  case hw96004 => kernel_rfl
  simp only [Act.put, List.setIfInBounds_toArray, List.set_cons_zero, List.set_cons_succ]
  refine @BigFrame.wpList_want _ _ _ _ _ _ _ ?hw96005 ?_
  case hw96005 => kernel_rfl
  intro K hK
  go_simp
  refine hK _ _ ?_
  clear hK K
  refine @BigFrame.wpList_want _ _ _ _ _ _ _ ?hw96003 ?_
  case hw96003 => kernel_rfl
  intro K hK
  go_simp
  go_at_call 29
  refine (HD2.out _).mono ?_
  rintro e w3 ⟨rfl, k3⟩
  have K3 := Lib.hid (KW.out.onto k3)
  have Rpb3 := row_kept Rpb.out k3
  have Rrb3 := row_kept Rrb.out k3
  clear k3 KW Rpb Rrb
  refine hK _ _ ?_
  clear hK K
  refine @wpL_alloc _ _ _ _ _ _ _ _ ?hw96006 22 rfl _ (alloc_arr11 _) ?_
  case hw96006 => kernel_rfl
  simp only [Act.put, List.setIfInBounds_toArray, List.set_cons_zero, List.set_cons_succ]
  refine wpList_store_row rfl 22 _ _ rfl (w3.heap.size) ec rfl rfl 22 zeros32 (heap_new _ _) (HIE.out) (HZE.out) (HAE.out) ?_
  simp only [Act.put]
  rw [World.setRow_alloc_new]
  have kb : Kept w3.heap.size w3.heap.size w3 (w3.alloc (.cells ec 22)) := (Kept.refl _ _ _).alloc (Nat.le_refl _) _
  have E4 := Lib.hid (heap_new w3 (.cells ec 22))
  have Rpb4 := Lib.hid (row_kept Rpb3 kb)
  have Rrb4 := Lib.hid (row_kept Rrb3 kb)
  have K4 := Lib.hid (K3.out.onto kb)
  clear Rpb3 Rrb3 kb K3
  generalize w3.alloc (.cells ec 22) = w4 at E4 Rpb4 Rrb4 K4 ⊢
  generalize w3.heap.size = eb at E4 ⊢
  have HLA := Lib.hid (fun (x : World) (k : Kept w4.heap.size w4.heap.size w4 x) => HLD.out x pb (row_kept Rpb4.out k))
  have HLB := Lib.hid (fun (x : World) (k : Kept w4.heap.size w4.heap.size w4 x) => HLE.out x eb (row_kept E4.out k))
  go_upto_region 2 with fail
  obtain ⟨wd, hwd⟩ : ∃ wd, wd = w4.drew := ⟨_, rfl⟩
  have KD : Kept w4.heap.size w4.heap.size w4 wd := by rw [hwd]; exact (Kept.refl _ _ _).drew
  refine wp_region_noPanic ?_
  refine wp_region_heldTo 13 (S := fun w' => Kept w4.heap.size w4.heap.size w4 w') (by kernel_rfl) (by rw [← hwd]; exact KD) (fun hH => ?_)
  rw [← hwd] at hH ⊢
  clear hwd
  refine heldTo_take (i := 0) 9 (.agg kc) rfl rfl (by kernel_rfl) (by kernel_rfl) (by kernel_rfl) (by kernel_rfl) (fun _ _ _ h => h) (yieldsIf_load_known (by kernel_rfl) 22 _ rfl (pb) (0) rfl (.agg kc) (HLA.out)) hH ?_
  simp only [List.setIfInBounds_toArray, List.set_cons_zero, List.set_cons_succ]
  refine heldTo_take (i := 1) 10 (.agg kc) rfl rfl (by kernel_rfl) (by kernel_rfl) (by kernel_rfl) (by kernel_rfl) (fun _ _ _ h => h) (yieldsIf_load_known (by kernel_rfl) 22 _ rfl (pb) (0) rfl (.agg kc) (HLA.out)) hH ?_
  simp only [List.setIfInBounds_toArray, List.set_cons_zero, List.set_cons_succ]
  refine heldTo_take (i := 3) 12 (.agg ec) rfl rfl (by kernel_rfl) (by kernel_rfl) (by kernel_rfl) (by kernel_rfl) (fun _ _ _ h => h) (yieldsIf_load_known (by kernel_rfl) 22 _ rfl (eb) (0) rfl (.agg ec) (HLB.out)) hH ?_
  simp only [List.setIfInBounds_toArray, List.set_cons_zero, List.set_cons_succ]
  refine heldTo_take (i := 4) 13 (.agg ec) rfl rfl (by kernel_rfl) (by kernel_rfl) (by kernel_rfl) (by kernel_rfl) (fun _ _ _ h => h) (yieldsIf_load_known (by kernel_rfl) 22 _ rfl (eb) (0) rfl (.agg ec) (HLB.out)) hH ?_
  simp only [List.setIfInBounds_toArray, List.set_cons_zero, List.set_cons_succ]
  refine heldTo_take (i := 6) 15 (.agg ec) rfl rfl (by kernel_rfl) (by kernel_rfl) (by kernel_rfl) (by kernel_rfl) (fun _ _ _ h => h) (yieldsIf_load_known (by kernel_rfl) 22 _ rfl (eb) (0) rfl (.agg ec) (HLB.out)) hH ?_
  simp only [List.setIfInBounds_toArray, List.set_cons_zero, List.set_cons_succ]
  refine heldTo_take (i := 8) 17 (.agg ec) rfl rfl (by kernel_rfl) (by kernel_rfl) (by kernel_rfl) (by kernel_rfl) (fun _ _ _ h => h) (yieldsIf_load_known (by kernel_rfl) 22 _ rfl (eb) (0) rfl (.agg ec) (HLB.out)) hH ?_
  simp only [List.setIfInBounds_toArray, List.set_cons_zero, List.set_cons_succ]
  refine heldTo_take (i := 10) 19 (.agg ec) rfl rfl (by kernel_rfl) (by kernel_rfl) (by kernel_rfl) (by kernel_rfl) (fun _ _ _ h => h) (yieldsIf_load_known (by kernel_rfl) 22 _ rfl (eb) (0) rfl (.agg ec) (HLB.out)) hH ?_
  simp only [List.setIfInBounds_toArray, List.set_cons_zero, List.set_cons_succ]
  refine heldTo_one (i := 2) (by kernel_rfl) rfl (fun K hK => ?_)
  rw [if_pos (by rfl)]
  go_simp
  go_wp2_with (go_at_call 29; refine (HD1.out _).mono ?_; rintro e v1 ⟨rfl, q1⟩)
  have KS : Kept w4.heap.size w4.heap.size w4 v1 := KD.onto q1
  have Q1 := KS
  refine hK.out _ _ KS (fun hH => ?_)
  clear hK K KS
  refine heldTo_one (i := 5) (by kernel_rfl) rfl (fun K hK => ?_)
  rw [if_pos (by rfl)]
  go_simp
  go_wp2_with (go_at_call 29; refine (HD3.out _).mono ?_; rintro e v3 ⟨rfl, q3⟩)
  have KS : Kept w4.heap.size w4.heap.size w4 v3 := Q1.onto q3
  have Q3 := KS
  refine hK.out _ _ KS (fun hH => ?_)
  clear hK K KS
  refine heldTo_one (i := 7) (by kernel_rfl) rfl (fun K hK => ?_)
  rw [if_pos (by rfl)]
  go_simp
  go_wp2_with (go_at_call 29; refine (HD4.out _).mono ?_; rintro e v4 ⟨rfl, q4⟩)
  have KS : Kept w4.heap.size w4.heap.size w4 v4 := Q3.onto q4
  have Q4 := KS
  refine hK.out _ _ KS (fun hH => ?_)
  clear hK K KS
  refine heldTo_one (i := 9) (by kernel_rfl) rfl (fun K hK => ?_)
  rw [if_pos (by rfl)]
  go_simp
  go_wp2_with (go_at_call 29; refine (HD5.out _).mono ?_; rintro e v5 ⟨rfl, q5⟩)
  have KS : Kept w4.heap.size w4.heap.size w4 v5 := Q4.onto q5
  have Q5 := KS
  refine hK.out _ _ KS (fun hH => ?_)
  clear hK K KS
  refine heldTo_one (i := 11) (by kernel_rfl) rfl (fun K hK => ?_)
  rw [if_pos (by rfl)]
  go_simp
  go_wp2_with (go_at_call 29; refine (HD6.out _).mono ?_; rintro e v6 ⟨rfl, q6⟩)
  have KS : Kept w4.heap.size w4.heap.size w4 v6 := Q5.onto q6
  have Q6 := KS
  refine hK.out _ _ KS (fun hH => ?_)
  clear hK K KS
  refine heldTo_take (i := 12) 21 (.agg fu) rfl rfl (by kernel_rfl) (by kernel_rfl) (by kernel_rfl) (by kernel_rfl) (fun _ _ _ h => h) (yieldsIf_buildN (by kernel_rfl) _ _ rfl #[(0, .agg kc), (1, .agg x1), (2, .agg ec), (3, .agg x3), (4, .agg x4), (5, .agg x5), (6, .agg x6)] (by simp only [List.map_toArray, List.map_cons, List.map_nil]; rfl) _ (fun w9 => HBU.out w9)) hH ?_
  simp only [List.setIfInBounds_toArray, List.set_cons_zero, List.set_cons_succ]
  refine heldTo_last (by kernel_rfl) rfl (fun K hK => ?_)
  rw [if_pos (by rfl)]
  have R9 := row_kept Rrb4.out Q6
  refine wp_store_row_none11 29 _ _ rfl rfl rb fu rfl rfl 29 zeros224 R9 HIF.out HZF.out HAF.out ?_
  refine hK.out _ _ ?_
  clear hK K
  refine heldTo_done (by kernel_rfl) ?_ _
  refine NoPanic.normal ?_
  clear hH
  have R10 := setRow_heap v6 rb _ fu _ _ R9
  have k10 : Kept w.heap.size w.heap.size w (v6.setRow rb fu) := kept_setRow10 (K4.out.onto Q6) rb HRB.out fu
  generalize v6.setRow rb fu = w10 at R10 k10 ⊢
  go_wp2
  refine bodyPost_ret (results_cell_row rfl _ _ rb 29 fu (0, 0) _ rfl R10 Tryd.underlying29 rfl HIF.out) rfl ?_
  exact ⟨rfl, k10⟩

end Go.Proofs.YtdfbmijbmlainaaDoor

namespace Go.Proofs.YtdfbmijbmlainaaDoor
open Go.RowKit Go.Lib

namespace Ky
def k1 : List UInt8 := 1 :: List.replicate 31 0
theorem awake_ne : (key k1 [120] 3 == key k1 [120] 6) = false := by decide +kernel
theorem awake_len : (ctxOf z32 0 z32 z32).length = 97 := by decide +kernel
end Ky
set_option maxRecDepth 100000 in
theorem build_k11 (w : World) : (Instr.build 23 #[(0, .int .u8 1)]).run Tryd.prog w = .ok (.agg (bcells Ky.k1).toArray) w := by kernel_rfl

set_option maxRecDepth 100000 in
set_option maxHeartbeats 6400000 in
theorem keys_awake (w : World) (tab : Tab w) : Calls Tryd.prog 9 #[] w fun e w' => e = .returned (.bool true) ∧ Kept w.heap.size w.heap.size w w' := by
  have HMK := Lib.hid (fun u => make_nil11 Ky.k1 rfl ⟨#[120]⟩ (by decide) u)
  rw [show (⟨#[120]⟩ : ByteArray).data.toList = [120] from rfl] at HMK
  have HBK := Lib.hid build_k11
  have HB0 := Lib.hid build_hash11
  have HCX := Lib.hid (fun (x : World) (k : Kept w.heap.size w.heap.size w x) => context_calls11 Ky.z32 Ky.z32 Ky.z32 rfl rfl rfl 0 x (tab.onto11 k))
  have HL0 := Lib.hid (fun (u : World) (b : Nat) (h : u.heap[b]? = some (.cells (bcells (Ky.secs Ky.k1 [120])).toArray 26 (0, 0))) => (show (loadVar 23 ⟨b, 0, none⟩).run Tryd.prog u = .ok (.agg (bcells Ky.k1).toArray) u from load_sec (Ky.st_all (j := Ky.k1) rfl [120] 6) h 0 _ rfl))
  have HL3 := Lib.hid (fun (u : World) (b : Nat) (h : u.heap[b]? = some (.cells (bcells (Ky.secs Ky.k1 [120])).toArray 26 (0, 0))) => (show (loadVar 23 ⟨b, 96, none⟩).run Tryd.prog u = .ok (.agg (bcells (Ky.key Ky.k1 [120] 3)).toArray) u from load_sec (Ky.st_all (j := Ky.k1) rfl [120] 6) h 3 _ rfl))
  have HL6 := Lib.hid (fun (u : World) (b : Nat) (h : u.heap[b]? = some (.cells (bcells (Ky.secs Ky.k1 [120])).toArray 26 (0, 0))) => (show (loadVar 23 ⟨b, 192, none⟩).run Tryd.prog u = .ok (.agg (bcells (Ky.key Ky.k1 [120] 6)).toArray) u from load_sec (Ky.st_all (j := Ky.k1) rfl [120] 6) h 6 _ rfl))
  have hfl : (Ky.secs Ky.k1 [120]).length = 224 := Ky.flat_len rfl _ 6
  have HIF := Lib.hid (secInfo hfl)
  have HZF := Lib.hid (secSize hfl)
  have HAF := Lib.hid (bcells_all (Ky.secs Ky.k1 [120]))
  have gd := macGuard25
  have heq1 := fun x => mac_equalIn x Ky.k1 rfl
  have heq2 := fun x => hash_equalIn x (Ky.key Ky.k1 [120] 3) (Ky.key Ky.k1 [120] 6) (Ky.key_length rfl _ _) (Ky.key_length rfl _ _)
  rw [Ky.awake_ne] at heq2
  have hz : ((str (Ky.ctxOf Ky.z32 0 Ky.z32 Ky.z32)).size : Int) = 97 := by rw [str_size, Ky.awake_len]; rfl
  generalize str (Ky.ctxOf Ky.z32 0 Ky.z32 Ky.z32) = tx at HCX hz
  generalize (bcells (Ky.secs Ky.k1 [120])).toArray = fu at HMK HIF HZF HAF HL0 HL3 HL6
  generalize (bcells (Ky.key Ky.k1 [120] 3)).toArray = c3 at HL3 heq2
  generalize (bcells (Ky.key Ky.k1 [120] 6)).toArray = c6 at HL6 heq2
  generalize (bcells Ky.k1).toArray = kc at HMK HBK HL0 heq1
  generalize (bcells Ky.z32).toArray = zc at HB0 HCX
  clear hfl tab
  go_enter Tryd.func9, Tryd.ntmps9
  go_upto_region 1 with fail
  refine wp_region_lit ?_
  refine @wpL_buildN _ _ _ _ _ _ _ ?hw97002 23 _ rfl #[(0, .int .u8 1)] (by simp only [List.map_toArray, List.map_cons, List.map_nil]; rfl) _ (HBK.out _) ?_
  case hw97002 => kernel_rfl
  simp only [Act.put, List.setIfInBounds_toArray, List.set_cons_zero, List.set_cons_succ]
  refine @BigFrame.wpList_want _ _ _ _ _ _ _ ?hw97001 ?_
  case hw97001 => kernel_rfl
  intro K hK
  go_simp
  go_at_call 10
  refine (HMK.out _).mono ?_
  rintro e w3 ⟨rfl, k3⟩
  have K3 := Lib.hid k3
  clear k3
  refine hK _ _ ?_
  clear hK K
  refine @wpL_alloc _ _ _ _ _ _ _ _ ?hw97003 26 rfl _ (alloc_secs _) ?_
  case hw97003 => kernel_rfl
  simp only [Act.put, List.setIfInBounds_toArray, List.set_cons_zero, List.set_cons_succ]
  refine wpList_store_row rfl 26 _ _ rfl (w3.heap.size) fu rfl rfl 26 zeros224 (heap_new _ _) (HIF.out) (HZF.out) (HAF.out) ?_
  simp only [Act.put]
  rw [World.setRow_alloc_new]
  have kn : Kept w3.heap.size w3.heap.size w3 (w3.alloc (.cells fu 26)) := (Kept.refl _ _ _).alloc (Nat.le_refl _) _
  have Rsb := Lib.hid (heap_new w3 (.cells fu 26))
  have Kw4 := Lib.hid (K3.out.onto kn)
  clear kn
  generalize w3.alloc (.cells fu 26) = w4 at Rsb Kw4  ⊢
  generalize w3.heap.size = sb at Rsb ⊢
  go_upto_region 2 with fail
  refine wp_region_lit ?_
  refine @wpL_build0 _ _ _ _ _ _ _ ?hw97005 23 rfl _ (HB0.out _) ?_
  case hw97005 => kernel_rfl
  simp only [Act.put, List.setIfInBounds_toArray, List.set_cons_zero, List.set_cons_succ]
  refine @wpL_build0 _ _ _ _ _ _ _ ?hw97006 23 rfl _ (HB0.out _) ?_
  case hw97006 => kernel_rfl
  simp only [Act.put, List.setIfInBounds_toArray, List.set_cons_zero, List.set_cons_succ]
  refine @wpL_build0 _ _ _ _ _ _ _ ?hw97007 23 rfl _ (HB0.out _) ?_
  case hw97007 => kernel_rfl
  simp only [Act.put, List.setIfInBounds_toArray, List.set_cons_zero, List.set_cons_succ]
  refine @BigFrame.wpList_want _ _ _ _ _ _ _ ?hw97004 ?_
  case hw97004 => kernel_rfl
  intro K hK
  go_simp
  go_at_call 20
  refine (HCX.out _ Kw4.out).mono ?_
  rintro e w5 ⟨rfl, k5⟩
  have R5 := Lib.hid (row_kept Rsb.out k5)
  have K5 := Lib.hid (Kw4.out.onto k5)
  clear k5 Rsb Kw4
  refine hK _ _ ?_
  clear hK K
  refine @BigFrame.wpList_want _ _ _ _ _ _ _ ?hw97008 ?_
  case hw97008 => kernel_rfl
  intro K hK
  go_simp
  refine hK _ _ ?_
  clear hK K
  refine @BigFrame.wpList_want _ _ _ _ _ _ _ ?hw97009 ?_
  case hw97009 => kernel_rfl
  intro K hK
  go_simp
  refine hK _ _ ?_
  clear hK K
  refine @BigFrame.wpList_want _ _ _ _ _ _ _ ?hw97010 ?_
  case hw97010 => kernel_rfl
  intro K hK
  go_simp
  refine hK _ _ ?_
  clear hK K
  refine @BigFrame.wpList_want _ _ _ _ _ _ _ ?hw97011 ?_
  case hw97011 => kernel_rfl
  intro K hK
  go_simp
  refine hK _ _ ?_
  clear hK K
  refine @wpList_load_known _ _ _ _ _ _ _ ?hw97012 23 (.tmp 11) rfl (sb) (96) rfl (.agg c3) (HL3.out _ _ R5.out) ?_
  case hw97012 => kernel_rfl
  simp only [Act.put, List.setIfInBounds_toArray, List.set_cons_zero, List.set_cons_succ]
  refine @BigFrame.wpList_want _ _ _ _ _ _ _ ?hw97013 ?_
  case hw97013 => kernel_rfl
  intro K hK
  go_simp
  refine hK _ _ ?_
  clear hK K
  refine @wpList_load_known _ _ _ _ _ _ _ ?hw97014 23 (.tmp 13) rfl (sb) (192) rfl (.agg c6) (HL6.out _ _ R5.out) ?_
  case hw97014 => kernel_rfl
  simp only [Act.put, List.setIfInBounds_toArray, List.set_cons_zero, List.set_cons_succ]
  refine @BigFrame.wpList_want _ _ _ _ _ _ _ ?hw97015 ?_
  case hw97015 => kernel_rfl
  intro K hK
  go_simp
  refine hK _ _ ?_
  clear hK K
  refine @BigFrame.wpList_want _ _ _ _ _ _ _ ?hw97016 ?_
  case hw97016 => kernel_rfl
  intro K hK
  go_simp
  refine hK _ _ ?_
  clear hK K
  refine @BigFrame.wpList_want _ _ _ _ _ _ _ ?hw97017 ?_
  case hw97017 => kernel_rfl
  intro K hK
  go_simp
  refine hK _ _ ?_
  clear hK K
  refine @BigFrame.wpList_want _ _ _ _ _ _ _ ?hw97018 ?_
  case hw97018 => kernel_rfl
  intro K hK
  go_simp
  refine hK _ _ ?_
  clear hK K
  refine @wpList_load_known _ _ _ _ _ _ _ ?hw97019 23 (.tmp 18) rfl (sb) (0) rfl (.agg kc) (HL0.out _ _ R5.out) ?_
  case hw97019 => kernel_rfl
  simp only [Act.put, List.setIfInBounds_toArray, List.set_cons_zero, List.set_cons_succ]
  refine @wpL_buildN _ _ _ _ _ _ _ ?hw97020 23 _ rfl #[(0, .int .u8 1)] (by simp only [List.map_toArray, List.map_cons, List.map_nil]; rfl) _ (HBK.out _) ?_
  case hw97020 => kernel_rfl
  simp only [Act.put, List.setIfInBounds_toArray, List.set_cons_zero, List.set_cons_succ]
  refine @BigFrame.wpList_want _ _ _ _ _ _ _ ?hw97021 ?_
  case hw97021 => kernel_rfl
  intro K hK
  go_simp
  refine hK _ _ ?_
  clear hK K
  refine @BigFrame.wpList_want _ _ _ _ _ _ _ ?hw97022 ?_
  case hw97022 => kernel_rfl
  intro K hK
  go_simp
  refine hK _ _ ?_
  clear hK K
  refine @BigFrame.wpList_want _ _ _ _ _ _ _ ?hw97023 ?_
  case hw97023 => kernel_rfl
  intro K hK
  go_simp
  refine hK _ _ ?_
  clear hK K
  go_wp2
  go_ret
  exact ⟨rfl, K5.out⟩

end Go.Proofs.YtdfbmijbmlainaaDoor
