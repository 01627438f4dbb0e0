/-
  The statement PprKeys: its walk.
-/
import Derived.Test.YtcoljiopnfgjaaaPprAt
import Derived.Test.YtcoljiopnfgjaaaPprStaysLaw

namespace Go.Proofs.Ytcoljiopnfgjaaa
open Go.RowKit Go.Lib

section
variable {P : Program} {ops : Array Oper} {rest : List Oper} {o : Oper} {a : Act} {w w' : World} {Q : Exit → Act → World → Prop}
theorem wpList_build_pair (hgd : o.guard = none) (t : TypeId) (i j : Nat) (x y : Operand) (ho : o.op = .build t #[(i, x), (j, y)]) (u v : Value) {r : Value} (hx : a.eval x = u) (hy : a.eval y = v) (hr : (Instr.build t #[(i, u), (j, v)]).run P w = .ok r w) (hk : wpList P ops Q rest (a.put o.dst r) w) : wpList P ops Q (o :: rest) a w := by
  refine wpList_plain hgd fun K hK => ?_
  unfold Oper.wp execOp
  simp only [ho, List.map_toArray, List.map_cons, List.map_nil, hx, hy, Sem.run_bind, hr, Result.andThen_ok, Sem.run_pure]
  exact hK _ _ hk
theorem wpList_build_none_g (hw : Region.wanted o (yielded ops a.tmps) = true) (t : TypeId) (ho : o.op = .build t #[]) {u : Value} (hr : (Instr.build t #[]).run P w = .ok u w) (hk : wpList P ops Q rest (a.put o.dst u) w) : wpList P ops Q (o :: rest) a w := by
  refine wpList_step fun K hK => ?_
  rw [if_pos hw]
  unfold Oper.wp execOp
  simp only [ho, List.map_toArray, List.map_nil, Sem.run_bind, hr, Result.andThen_ok, Sem.run_pure]
  exact hK _ _ hk
end

/-- The cells of a new row of the document. -/
def newRow (l : List UInt8) (bits : Nat) : Array Value := refRow l bits (.slice none 0 0)
def zerosRow : Array Value := refRow (List.replicate 32 0) 0 (.slice none 0 0)
theorem zerosRow_size : zerosRow.size = 34 := by decide
theorem newRow_size {l : List UInt8} (h : l.length = 32) (bits : Nat) : (newRow l bits).size = 34 := refRow_size h bits _
theorem newRow_all (l : List UInt8) (bits : Nat) : (newRow l bits).all (·.oneCell') = true := by
  have h := bcells_all l
  rw [newRow, refRow]
  simp only [List.all_toArray] at h ⊢
  rw [List.all_append, h]
  rfl
set_option maxRecDepth 100000 in
theorem build_newRow (w : World) (l : List UInt8) (hl : l.length = 32) (bits : Nat) : (Instr.build 60 #[(0, .agg (bcells l).toArray), (1, .int .i64 (bits : Int))]).run Try.prog w = .ok (.agg (newRow l bits)) w := by
  generalize (bits : Int) = n
  revert l
  refine list32 ?_
  intros
  kernel_rfl
set_option maxRecDepth 100000 in
theorem alloc_newRow (w : World) : (Instr.alloc 60 true (.tuple #[])).run Try.prog w = .ok (.pointer (some ⟨w.heap.size, 0, none⟩)) (w.alloc (.cells zerosRow 60)) := by kernel_rfl
set_option maxRecDepth 100000 in
theorem refRowInfo {cs : Array Value} (h : cs.size = 34) : (Try.prog.info? 60).map (·.size) = some cs.size := by rw [h]; kernel_rfl
set_option maxRecDepth 100000 in
theorem build_zeroHash (w : World) : (Instr.build 26 #[]).run Try.prog w = .ok (.agg zeros32) w := by kernel_rfl

theorem look_out (bits : Nat) (hb : bits ≤ 32) (L : List Sd) (rb : Nat) (sl : Value) (pl : Int) (w : World) (hR : RowIs w rb bits sl L) (h : pl < 0 ∨ ((2 ^ bits : Nat) : Int) ≤ pl) : Calls Try.prog 30 #[.pointer (some ⟨rb, 0, none⟩), .pointer none, .int .i64 pl] w fun e w' => e = .returned (.tuple #[.agg zeros32, .int .i64 1]) ∧ Kept w.heap.size w.heap.size w w' :=
  look_no (some ⟨rb, 0, none⟩) (.pointer none) pl 0 1 (by decide) w (fun w2 k => find_out bits hb L rb sl pl w2 (hR.kept k) h)
theorem gone_out (bits : Nat) (hb : bits ≤ 32) (L : List Sd) (rb : Nat) (sl : Value) (pl : Int) (w : World) (hR : RowIs w rb bits sl L) (h : pl < 0 ∨ ((2 ^ bits : Nat) : Int) ≤ pl) : Calls Try.prog 34 #[.pointer (some ⟨rb, 0, none⟩), .int .i64 pl] w fun e w' => e = .returned (.bool true) ∧ Kept w.heap.size w.heap.size w w' :=
  gone_yes (some ⟨rb, 0, none⟩) pl 0 1 (by decide) w (find_out bits hb L rb sl pl w hR h)

set_option maxRecDepth 100000 in
set_option maxHeartbeats 6400000 in
theorem pprkeys_walk (l : List UInt8) (hl : l.length = 32) (bits place : Int) (w : World) :
    Calls Try.prog 7 #[.agg (bcells l).toArray, .int .i64 bits, .int .i64 place] w fun e w' => e = .returned (.bool true) ∧ Kept w.heap.size w.heap.size w w' := by
  have hnew := fun n h1 h2 w => new_calls l hl n h1 h2 w
  have hno := fun h w => new_no l bits h w
  have hbld := fun n w => build_newRow w l hl n
  obtain ⟨LD, hLD⟩ : ∃ LD, LD = (bcells l).toArray := ⟨_, rfl⟩
  have HLI := Lib.hid (show (Try.prog.info? 26).map (·.size) = some LD.size by rw [hLD]; exact keyInfo hl)
  simp only [← hLD] at hnew hno hbld
  rw [← hLD]
  have HNEW := Lib.hid hnew
  have HNO := Lib.hid hno
  have HBLD := Lib.hid hbld
  have HLL := Lib.hid hl
  clear hLD hl hnew hno hbld
  have hk1 : Kept w.heap.size w.heap.size w (w.alloc (.cells LD 26)) := (Kept.refl _ _ _).alloc (Nat.le_refl _) _
  have hr1 := heap_new w (.cells LD 26)
  have K1 := Lib.hid hk1
  have R1 := Lib.hid hr1
  clear hk1 hr1
  go_enter Try.func7, Try.ntmps7
  go_upto_region 1 with fail
  generalize w.alloc (.cells LD 26) = w1 at K1 R1 ⊢
  obtain ⟨wa, hwa⟩ : ∃ wa, wa = w.heap.size := ⟨_, rfl⟩
  rw [← hwa] at R1 ⊢
  have HWA := Lib.hid hwa
  clear hwa
  by_cases hout : bits < 1 ∨ 32 < bits
  · have HOUT := Lib.hid hout
    refine wp_region_lit ?_
    refine wpList_load_row rfl 26 (.tmp 3) rfl (wa) rfl 26 LD (0, 0) _ (R1.out) Try.underlying26 rfl (HLI.out) ?_
    simp only [Act.put, List.setIfInBounds_toArray, List.set_cons_zero, List.set_cons_succ]
    refine @BigFrame.wpList_want _ _ _ _ _ _ _ ?hw1401 ?_
    case hw1401 => kernel_rfl
    intro K hK
    go_simp
    refine hK _ _ ?_
    clear hK K
    refine @BigFrame.wpList_want _ _ _ _ _ _ _ ?hw1402 ?_
    case hw1402 => kernel_rfl
    intro K hK
    go_simp
    go_at_call 26
    refine (HNO.out HOUT.out _).mono ?_
    rintro e w2 ⟨rfl, k2⟩
    refine hK _ _ ?_
    clear hK K
    have K2 := Lib.hid (K1.out.next1 k2)
    clear k2
    refine @BigFrame.wpList_want _ _ _ _ _ _ _ ?hw1403 ?_
    case hw1403 => kernel_rfl
    intro K hK
    go_simp
    refine hK _ _ ?_
    clear hK K
    refine @BigFrame.wpList_want _ _ _ _ _ _ _ ?hw1404 ?_
    case hw1404 => kernel_rfl
    intro K hK
    go_simp
    refine hK _ _ ?_
    clear hK K
    refine @BigFrame.wpList_want _ _ _ _ _ _ _ ?hw1405 ?_
    case hw1405 => kernel_rfl
    intro K hK
    go_simp
    refine hK _ _ ?_
    clear hK K
    refine @BigFrame.wpList_want _ _ _ _ _ _ _ ?hw1406 ?_
    case hw1406 => kernel_rfl
    intro K hK
    go_simp
    refine hK _ _ ?_
    clear hK K
    refine @BigFrame.wpList_want _ _ _ _ _ _ _ ?hw1407 ?_
    case hw1407 => kernel_rfl
    intro K hK
    go_simp
    refine hK _ _ ?_
    clear hK K
    rcases hout with h1 | h1
    · clear HOUT
      go_wp2_with (go_at_call 25; refine (ppr_awake _).mono ?_; rintro e w3 ⟨rfl, k3⟩; have K3 := Lib.hid (K2.out.next1 k3))
      go_ret
      exact ⟨rfl, K3.out⟩
    · have h2 : ¬ bits < 1 := by omega
      have h3 : bits > 32 := h1
      clear HOUT h1
      go_wp2_with (go_at_call 25; refine (ppr_awake _).mono ?_; rintro e w3 ⟨rfl, k3⟩; have K3 := Lib.hid (K2.out.next1 k3))
      go_ret
      exact ⟨rfl, K3.out⟩
  · obtain ⟨n, rfl⟩ : ∃ n : Nat, bits = (n : Int) := ⟨bits.toNat, by omega⟩
    have hn1 : 1 ≤ n := by omega
    have hn32 : n ≤ 32 := by omega
    have hb1 : ¬ (n : Int) < 1 := by omega
    have hb2 : ¬ (n : Int) > 32 := by omega
    have HN1 := Lib.hid hn1
    have HN32 := Lib.hid hn32
    clear hout hn1 hn32
    refine wp_region_lit ?_
    refine wpList_load_row rfl 26 (.tmp 3) rfl (wa) rfl 26 LD (0, 0) _ (R1.out) Try.underlying26 rfl (HLI.out) ?_
    simp only [Act.put, List.setIfInBounds_toArray, List.set_cons_zero, List.set_cons_succ]
    refine @BigFrame.wpList_want _ _ _ _ _ _ _ ?hw1408 ?_
    case hw1408 => kernel_rfl
    intro K hK
    go_simp
    refine hK _ _ ?_
    clear hK K
    refine @BigFrame.wpList_want _ _ _ _ _ _ _ ?hw1409 ?_
    case hw1409 => kernel_rfl
    intro K hK
    go_simp
    go_at_call 26
    refine (HNEW.out n HN1.out HN32.out _).mono ?_
    rintro e w2 ⟨rb, sl, rfl, hrb, hr2, k2⟩
    refine hK _ _ ?_
    clear hK K
    have K2 := Lib.hid (K1.out.next1 k2)
    have HR2 := Lib.hid hr2
    have R2 := Lib.hid ((k2.block wa (lt_of_block R1.out) (Nat.ne_of_lt (lt_of_block R1.out))).trans R1.out)
    clear k2 hr2 hrb
    refine @BigFrame.wpList_want _ _ _ _ _ _ _ ?hw1410 ?_
    case hw1410 => kernel_rfl
    intro K hK
    go_simp
    refine hK _ _ ?_
    clear hK K
    refine @BigFrame.wpList_want _ _ _ _ _ _ _ ?hw1411 ?_
    case hw1411 => kernel_rfl
    intro K hK
    go_simp
    refine hK _ _ ?_
    clear hK K
    refine @BigFrame.wpList_want _ _ _ _ _ _ _ ?hw1412 ?_
    case hw1412 => kernel_rfl
    intro K hK
    go_simp
    refine hK _ _ ?_
    clear hK K
    refine @BigFrame.wpList_want _ _ _ _ _ _ _ ?hw1413 ?_
    case hw1413 => kernel_rfl
    intro K hK
    go_simp
    refine hK _ _ ?_
    clear hK K
    refine @BigFrame.wpList_want _ _ _ _ _ _ _ ?hw1414 ?_
    case hw1414 => kernel_rfl
    intro K hK
    go_simp
    refine hK _ _ ?_
    clear hK K
    go_upto_region 4 with fail
    refine wp_region_lit ?_
    refine wpList_load_row rfl 26 (.tmp 3) rfl (wa) rfl 26 LD (0, 0) _ (R2.out) Try.underlying26 rfl (HLI.out) ?_
    simp only [Act.put, List.setIfInBounds_toArray, List.set_cons_zero, List.set_cons_succ]
    refine @BigFrame.wpList_want _ _ _ _ _ _ _ ?hw1415 ?_
    case hw1415 => kernel_rfl
    intro K hK
    go_simp
    refine hK _ _ ?_
    clear hK K
    refine wpList_build_pair rfl 60 0 1 _ _ rfl (.agg LD) (.int .i64 (n : Int)) rfl rfl (HBLD.out n _) ?_
    simp only [Act.put, List.setIfInBounds_toArray, List.set_cons_zero, List.set_cons_succ]
    obtain ⟨RW, hRW⟩ : ∃ RW, RW = newRow l n := ⟨_, rfl⟩
    rw [← hRW]
    have HRS := Lib.hid (show RW.size = 34 by rw [hRW]; exact newRow_size HLL.out n)
    have HRA := Lib.hid (show RW.all (·.oneCell') = true by rw [hRW]; exact newRow_all l n)
    have HRI := Lib.hid (refRowInfo HRS.out)
    have HRW := Lib.hid hRW
    clear hRW
    refine wpList_alloc_k rfl 60 rfl (alloc_newRow _) ?_
    simp only [Act.put, List.setIfInBounds_toArray, List.set_cons_zero, List.set_cons_succ]
    refine wpList_store_row rfl 60 _ _ rfl (w2.heap.size) RW rfl rfl 60 zerosRow (heap_new _ _) (HRI.out) (by rw [zerosRow_size, HRS.out]) (HRA.out) ?_
    simp only [Act.put]
    rw [World.setRow_alloc_new]
    have kk3 : Kept w2.heap.size w2.heap.size w2 (w2.alloc (.cells RW 60)) := (Kept.refl _ _ _).alloc (Nat.le_refl _) _
    have HR3 := Lib.hid (HR2.out.kept kk3)
    have K3 := Lib.hid (K2.out.next1 kk3)
    have M3 := Lib.hid (heap_new w2 (.cells RW 60))
    clear kk3
    generalize w2.alloc (.cells RW 60) = w3 at HR3 K3 M3 ⊢
    obtain ⟨mb, hmb⟩ : ∃ mb, mb = w2.heap.size := ⟨_, rfl⟩
    rw [← hmb] at M3 ⊢
    clear hmb HR2 R2
    have HWI := Lib.hid (fun w => within_calls l HLL.out n HN32.out (.slice none 0 0) place w)
    have gd := macGuard25
    obtain ⟨PN, hPN⟩ : ∃ PN, PN = 2 ^ n := ⟨_, rfl⟩
    by_cases hin : 0 ≤ place ∧ place < (PN : Int)
    · obtain ⟨p, rfl⟩ : ∃ p : Nat, place = (p : Int) := ⟨place.toNat, by omega⟩
      have hp : p < 2 ^ n := by rw [← hPN]; omega
      have HWI : Hid (∀ w, Calls Try.prog 27 #[.agg RW, .int .i64 (p : Int)] w fun e w' => e = .returned (.bool true) ∧ Kept w.heap.size w.heap.size w w') := Lib.hid (fun w => by
        have h := HWI.out w
        rw [show (decide (0 ≤ (p : Int)) && decide ((p : Int) < ((2 ^ n : Nat) : Int))) = true by rw [← hPN, Bool.and_eq_true_iff, decide_eq_true_iff, decide_eq_true_iff]; omega] at h
        rw [HRW.out]
        exact h)
      obtain ⟨k0, hk0⟩ : ∃ k0, k0 = Pp.key (Pp.leaf n p n ⟨0, 0, l⟩).self := ⟨_, rfl⟩
      have hke : Pp.key (Pp.path p n l) = k0 := by
        rw [hk0, Pp.leaf_path n p n ⟨0, 0, l⟩ (Nat.zero_add _) (by simp [Pp.start]) (by simpa [Pp.stop] using hp)]
      have hp32 : p < 2 ^ 32 := Nat.lt_of_lt_of_le hp (Nat.pow_le_pow_right (by decide) HN32.out)
      have hkey := fun w => refkey_calls l HLL.out n HN32.out (.slice none 0 0) p hp32 w
      rw [hke] at hkey
      have hat := root_key n p hp l
      rw [← hk0] at hat
      have HP2 := Lib.hid hp
      have HKA := Lib.hid hat
      have HGR := Lib.hid (root_good n l HLL.out)
      have hk32 : k0.length = 32 := by rw [hk0]; exact sum_length _
      obtain ⟨KD, hKD⟩ : ∃ KD, KD = (bcells k0).toArray := ⟨_, rfl⟩
      have heq : ∀ w, (Op.equalIn 10000 26 (.agg KD) (.agg KD)).run Try.prog w = .ok true w := fun w => by
        rw [hKD]
        have := hash_equalIn w k0 k0 hk32 hk32
        rwa [beq_self_eq_true] at this
      have HQS := Lib.hid (show KD.size = 32 by rw [hKD]; exact keyD_size hk32)
      have HQA := Lib.hid (show KD.all (·.oneCell') = true by rw [hKD]; exact bcells_all _)
      have HQI := Lib.hid (show (Try.prog.info? 26).map (·.size) = some KD.size by rw [hKD]; exact keyInfo hk32)
      have hlook := fun w (h : RowIs w rb n sl [⟨0, 0, l⟩]) => look_key n HN32.out _ rb sl p HP2.out k0 HKA.out w h HGR.out (by simp)
      rw [← hKD] at hkey hlook
      rw [show refRow l n (.slice none 0 0) = RW from HRW.out.symm] at hkey
      have HKEY := Lib.hid hkey
      have HLOOK := Lib.hid hlook
      have HGONE := Lib.hid (fun w (h : RowIs w rb n sl [⟨0, 0, l⟩]) => gone_key n HN32.out _ rb sl p HP2.out k0 HKA.out w h HGR.out (by simp))
      have HEQ := Lib.hid heq
      clear hPN hin hp hk0 hke hp32 hkey hat hk32 hKD heq hlook
      go_upto_region 5 with fail
      refine wp_region_lit ?_
      refine @BigFrame.wpList_want _ _ _ _ _ _ _ ?hw1442 ?_
      case hw1442 => kernel_rfl
      intro K hK
      go_simp
      refine hK _ _ ?_
      clear hK K
      refine @BigFrame.wpList_want _ _ _ _ _ _ _ ?hw1443 ?_
      case hw1443 => kernel_rfl
      intro K hK
      go_simp
      refine hK _ _ ?_
      clear hK K
      refine @BigFrame.wpList_want _ _ _ _ _ _ _ ?hw1444 ?_
      case hw1444 => kernel_rfl
      intro K hK
      go_simp
      go_at_call 30
      refine (HLOOK.out w3 HR3.out).mono ?_
      rintro e w4 ⟨rfl, k4⟩
      refine hK _ _ ?_
      clear hK K
      have K4 := Lib.hid (K3.out.next1 k4)
      have HR4 := Lib.hid (HR3.out.kept k4)
      have M4 := Lib.hid ((k4.block mb (lt_of_block M3.out) (Nat.ne_of_lt (lt_of_block M3.out))).trans M3.out)
      clear k4
      refine @BigFrame.wpList_want _ _ _ _ _ _ _ ?hw1445 ?_
      case hw1445 => kernel_rfl
      intro K hK
      go_simp
      refine hK _ _ ?_
      clear hK K
      refine @BigFrame.wpList_want _ _ _ _ _ _ _ ?hw1446 ?_
      case hw1446 => kernel_rfl
      intro K hK
      go_simp
      refine hK _ _ ?_
      clear hK K
      refine @BigFrame.wpList_want _ _ _ _ _ _ _ ?hw1447 ?_
      case hw1447 => kernel_rfl
      intro K hK
      go_simp
      refine hK _ _ ?_
      clear hK K
      refine wpList_alloc_k rfl 26 rfl (alloc_hash _) ?_
      simp only [Act.put, List.setIfInBounds_toArray, List.set_cons_zero, List.set_cons_succ]
      refine wpList_store_row rfl 26 _ _ rfl (w4.heap.size) KD rfl rfl 26 zeros32 (heap_new _ _) (HQI.out) (zeros32_size.trans HQS.out.symm) (HQA.out) ?_
      simp only [Act.put]
      rw [World.setRow_alloc_new]
      have kk5 : Kept w4.heap.size w4.heap.size w4 (w4.alloc (.cells KD 26)) := (Kept.refl _ _ _).alloc (Nat.le_refl _) _
      have HR5 := Lib.hid (HR4.out.kept kk5)
      have K5 := Lib.hid (K4.out.next1 kk5)
      have M5 := Lib.hid ((kk5.block mb (lt_of_block M4.out) (Nat.ne_of_lt (lt_of_block M4.out))).trans M4.out)
      have Q5 := Lib.hid (heap_new w4 (.cells KD 26))
      clear kk5
      generalize w4.alloc (.cells KD 26) = w5 at HR5 K5 M5 Q5 ⊢
      obtain ⟨qb, hqb⟩ : ∃ qb, qb = w4.heap.size := ⟨_, rfl⟩
      rw [← hqb] at Q5 ⊢
      clear hqb
      refine @BigFrame.wpList_want _ _ _ _ _ _ _ ?hw1448 ?_
      case hw1448 => kernel_rfl
      intro K hK
      go_simp
      refine hK _ _ ?_
      clear hK K
      go_upto_region 6 with fail
      refine wp_region_lit ?_
      refine wpList_load_row rfl 60 (.tmp 9) rfl (mb) rfl 60 RW (0, 0) _ (M5.out) Try.underlying60 rfl (HRI.out) ?_
      simp only [Act.put, List.setIfInBounds_toArray, List.set_cons_zero, List.set_cons_succ]
      refine @BigFrame.wpList_want _ _ _ _ _ _ _ ?hw1449 ?_
      case hw1449 => kernel_rfl
      intro K hK
      go_simp
      refine hK _ _ ?_
      clear hK K
      refine @BigFrame.wpList_want _ _ _ _ _ _ _ ?hw1450 ?_
      case hw1450 => kernel_rfl
      intro K hK
      go_simp
      go_at_call 27
      refine (HWI.out _).mono ?_
      rintro e w6 ⟨rfl, k6⟩
      refine hK _ _ ?_
      clear hK K
      have K6 := Lib.hid (K5.out.next1 k6)
      have HR6 := Lib.hid (HR5.out.kept k6)
      have M6 := Lib.hid ((k6.block mb (lt_of_block M5.out) (Nat.ne_of_lt (lt_of_block M5.out))).trans M5.out)
      have Q6 := Lib.hid ((k6.block qb (lt_of_block Q5.out) (Nat.ne_of_lt (lt_of_block Q5.out))).trans Q5.out)
      clear k6
      refine @BigFrame.wpList_want _ _ _ _ _ _ _ ?hw1451 ?_
      case hw1451 => kernel_rfl
      intro K hK
      go_simp
      refine hK _ _ ?_
      clear hK K
      have heq := HEQ.out
      go_upto_region 8 with fail
      have HLQ := Lib.hid (fun w' (kk : Kept w6.heap.size w6.heap.size w6 w') => run_loadVar_row w' qb 26 26 KD (0, 0) _ ((kk.block qb (lt_of_block Q6.out) (Nat.ne_of_lt (lt_of_block Q6.out))).trans Q6.out) Try.underlying26 rfl HQI.out)
      have HLM := Lib.hid (fun w' (kk : Kept w6.heap.size w6.heap.size w6 w') => run_loadVar_row w' mb 60 60 RW (0, 0) _ ((kk.block mb (lt_of_block M6.out) (Nat.ne_of_lt (lt_of_block M6.out))).trans M6.out) Try.underlying60 rfl HRI.out)
      have HGN := Lib.hid (fun w' (kk : Kept w6.heap.size w6.heap.size w6 w') => HGONE.out w' (HR6.out.kept kk))
      have HBT := Lib.hid (fun w' (kk : Kept w6.heap.size w6.heap.size w6 w') => (bits_calls rb n sl w' (HR6.out.kept kk).1).mono (fun e w9 (h : _ ∧ w9 = w') => show e = .returned (.int .i64 (n : Int)) ∧ Kept w'.heap.size w'.heap.size w' w9 from ⟨h.1, by rw [h.2]; exact Kept.refl _ _ _⟩))
      have KD0 : Kept w6.heap.size w6.heap.size w6 w6.drew := (Kept.refl _ _ _).drew
      refine wp_region_noPanic ?_
      refine wp_region_held_drew (S := fun w' => Kept w6.heap.size w6.heap.size w6 w') (by kernel_rfl) (KD0) (fun hH => ?_)
      refine wpAnyH_ready (rs := [0]) (by kernel_rfl) (by simp) ?_
      refine AllReadyH.cons rfl (fun K hK => ?_) AllReadyH.nil
      rw [if_pos (by rfl)]
      go_simp
      go_wp2_with (go_at_call 25; refine (ppr_awake _).mono ?_; rintro e w7 ⟨rfl, kw7⟩)
      have Kw7 : Kept w6.heap.size w6.heap.size w6 w7 := KD0.trans (kw7.mono KD0.size (fun i hi _ => Nat.ne_of_lt (Nat.lt_of_lt_of_le hi KD0.size)))
      refine hK.out _ _ (Kw7) (fun hH => ?_)
      clear hK K
      refine wpAnyH_take_at (i := 1) 61 (.bool true) rfl rfl (by kernel_rfl) (by kernel_rfl) (by kernel_rfl) (fun _ _ _ h => h) (.inl ⟨by kernel_rfl, fun w9 _ => by go_simp⟩) hH ?_
      simp only [List.setIfInBounds_toArray, List.set_cons_zero, List.set_cons_succ]
      refine wpAnyH_take_at (i := 2) 62 (.int .i64 0) rfl rfl (by kernel_rfl) (by kernel_rfl) (by kernel_rfl) (fun _ _ _ h => h) (.inl ⟨by kernel_rfl, fun w9 _ => by go_simp⟩) hH ?_
      simp only [List.setIfInBounds_toArray, List.set_cons_zero, List.set_cons_succ]
      refine wpAnyH_take_at (i := 3) 63 (.bool true) rfl rfl (by kernel_rfl) (by kernel_rfl) (by kernel_rfl) (fun _ _ _ h => h) (.inl ⟨by kernel_rfl, fun w9 _ => by go_simp⟩) hH ?_
      simp only [List.setIfInBounds_toArray, List.set_cons_zero, List.set_cons_succ]
      refine wpAnyH_take_at (i := 4) 64 (.bool true) rfl rfl (by kernel_rfl) (by kernel_rfl) (by kernel_rfl) (fun _ _ _ h => h) (.inl ⟨by kernel_rfl, fun w9 _ => by go_simp⟩) hH ?_
      simp only [List.setIfInBounds_toArray, List.set_cons_zero, List.set_cons_succ]
      refine wpAnyH_take_at (i := 5) 65 (.bool true) rfl rfl (by kernel_rfl) (by kernel_rfl) (by kernel_rfl) (fun _ _ _ h => h) (.inl ⟨by kernel_rfl, fun w9 _ => by go_simp⟩) hH ?_
      simp only [List.setIfInBounds_toArray, List.set_cons_zero, List.set_cons_succ]
      refine wpAnyH_take_at (i := 6) 66 (.agg KD) rfl rfl (by kernel_rfl) (by kernel_rfl) (by kernel_rfl) (fun _ _ _ h => h) (yieldsIf_load_known (by kernel_rfl) 26 _ rfl (qb) (0) rfl (.agg KD) (fun w' hw' => HLQ.out w' hw')) hH ?_
      simp only [List.setIfInBounds_toArray, List.set_cons_zero, List.set_cons_succ]
      refine wpAnyH_take_at (i := 7) 67 (.agg RW) rfl rfl (by kernel_rfl) (by kernel_rfl) (by kernel_rfl) (fun _ _ _ h => h) (yieldsIf_load_known (by kernel_rfl) 60 _ rfl (mb) (0) rfl (.agg RW) (fun w' hw' => HLM.out w' hw')) hH ?_
      simp only [List.setIfInBounds_toArray, List.set_cons_zero, List.set_cons_succ]
      refine wpAnyH_take_at (i := 8) 68 (.int .i64 (p : Int)) rfl rfl (by kernel_rfl) (by kernel_rfl) (by kernel_rfl) (fun _ _ _ h => h) (.inl ⟨by kernel_rfl, fun w9 _ => by go_simp⟩) hH ?_
      simp only [List.setIfInBounds_toArray, List.set_cons_zero, List.set_cons_succ]
      refine wpAnyH_ready (rs := [9]) (by kernel_rfl) (by simp) ?_
      refine AllReadyH.cons rfl (fun K hK => ?_) AllReadyH.nil
      rw [if_pos (by rfl)]
      go_simp
      go_wp2_with (go_at_call 38; refine (HKEY.out _).mono ?_; rintro e w8 ⟨rfl, kw8⟩)
      have Kw8 : Kept w6.heap.size w6.heap.size w6 w8 := Kw7.trans (kw8.mono Kw7.size (fun i hi _ => Nat.ne_of_lt (Nat.lt_of_lt_of_le hi Kw7.size)))
      refine hK.out _ _ (Kw8) (fun hH => ?_)
      clear hK K
      refine wpAnyH_take_at (i := 10) 70 (.bool true) rfl rfl (by kernel_rfl) (by kernel_rfl) (by kernel_rfl) (fun _ _ _ h => h) (.inl ⟨by kernel_rfl, fun w9 _ => by go_simp⟩) hH ?_
      simp only [List.setIfInBounds_toArray, List.set_cons_zero, List.set_cons_succ]
      refine wpAnyH_take_at (i := 11) 71 (.bool true) rfl rfl (by kernel_rfl) (by kernel_rfl) (by kernel_rfl) (fun _ _ _ h => h) (.inl ⟨by kernel_rfl, fun w9 _ => by go_simp⟩) hH ?_
      simp only [List.setIfInBounds_toArray, List.set_cons_zero, List.set_cons_succ]
      refine wpAnyH_take_at (i := 12) 72 (.bool true) rfl rfl (by kernel_rfl) (by kernel_rfl) (by kernel_rfl) (fun _ _ _ h => h) (.inl ⟨by kernel_rfl, fun w9 _ => by go_simp⟩) hH ?_
      simp only [List.setIfInBounds_toArray, List.set_cons_zero, List.set_cons_succ]
      refine wpAnyH_take_at (i := 13) 73 (.pointer (some ⟨rb, 0, none⟩)) rfl rfl (by kernel_rfl) (by kernel_rfl) (by kernel_rfl) (fun _ _ _ h => h) (.inl ⟨by kernel_rfl, fun w9 _ => by go_simp⟩) hH ?_
      simp only [List.setIfInBounds_toArray, List.set_cons_zero, List.set_cons_succ]
      refine wpAnyH_take_at (i := 14) 74 (.int .i64 (p : Int)) rfl rfl (by kernel_rfl) (by kernel_rfl) (by kernel_rfl) (fun _ _ _ h => h) (.inl ⟨by kernel_rfl, fun w9 _ => by go_simp⟩) hH ?_
      simp only [List.setIfInBounds_toArray, List.set_cons_zero, List.set_cons_succ]
      refine wpAnyH_ready (rs := [15]) (by kernel_rfl) (by simp) ?_
      refine AllReadyH.cons rfl (fun K hK => ?_) AllReadyH.nil
      rw [if_pos (by rfl)]
      go_simp
      go_wp2_with (go_at_call 34; refine (HGN.out _ Kw8).mono ?_; rintro e w9 ⟨rfl, kw9⟩)
      have Kw9 : Kept w6.heap.size w6.heap.size w6 w9 := Kw8.trans (kw9.mono Kw8.size (fun i hi _ => Nat.ne_of_lt (Nat.lt_of_lt_of_le hi Kw8.size)))
      refine hK.out _ _ (Kw9) (fun hH => ?_)
      clear hK K
      refine wpAnyH_take_at (i := 16) 76 (.bool true) rfl rfl (by kernel_rfl) (by kernel_rfl) (by kernel_rfl) (fun _ _ _ h => h) (.inl ⟨by kernel_rfl, fun w9 _ => by go_simp⟩) hH ?_
      simp only [List.setIfInBounds_toArray, List.set_cons_zero, List.set_cons_succ]
      refine wpAnyH_take_at (i := 17) 77 (.bool true) rfl rfl (by kernel_rfl) (by kernel_rfl) (by kernel_rfl) (fun _ _ _ h => h) (.inl ⟨by kernel_rfl, fun w9 _ => by go_simp⟩) hH ?_
      simp only [List.setIfInBounds_toArray, List.set_cons_zero, List.set_cons_succ]
      refine wpAnyH_take_at (i := 18) 78 (.bool true) rfl rfl (by kernel_rfl) (by kernel_rfl) (by kernel_rfl) (fun _ _ _ h => h) (.inl ⟨by kernel_rfl, fun w9 _ => by go_simp⟩) hH ?_
      simp only [List.setIfInBounds_toArray, List.set_cons_zero, List.set_cons_succ]
      refine wpAnyH_take_at (i := 19) 79 (.pointer (some ⟨rb, 0, none⟩)) rfl rfl (by kernel_rfl) (by kernel_rfl) (by kernel_rfl) (fun _ _ _ h => h) (.inl ⟨by kernel_rfl, fun w9 _ => by go_simp⟩) hH ?_
      simp only [List.setIfInBounds_toArray, List.set_cons_zero, List.set_cons_succ]
      refine wpAnyH_take_at (i := 21) 81 (.int .i64 (n : Int)) rfl rfl (by kernel_rfl) (by kernel_rfl) (by kernel_rfl) (fun _ _ _ h => h) (.inl ⟨by kernel_rfl, fun w9 _ => by go_simp⟩) hH ?_
      simp only [List.setIfInBounds_toArray, List.set_cons_zero, List.set_cons_succ]
      refine wpAnyH_ready (rs := [20]) (by kernel_rfl) (by simp) ?_
      refine AllReadyH.cons rfl (fun K hK => ?_) AllReadyH.nil
      rw [if_pos (by rfl)]
      go_simp
      go_wp2_with (go_at_call 39; refine (HBT.out _ Kw9).mono ?_; rintro e w10 ⟨rfl, kw10⟩)
      have Kw10 : Kept w6.heap.size w6.heap.size w6 w10 := Kw9.trans (kw10.mono Kw9.size (fun i hi _ => Nat.ne_of_lt (Nat.lt_of_lt_of_le hi Kw9.size)))
      refine hK.out _ _ (Kw10) (fun hH => ?_)
      clear hK K
      refine wpAnyH_take_at (i := 22) 82 (.bool true) rfl rfl (by kernel_rfl) (by kernel_rfl) (by kernel_rfl) (fun _ _ _ h => h) (.inl ⟨by kernel_rfl, fun w9 _ => by go_simp⟩) hH ?_
      simp only [List.setIfInBounds_toArray, List.set_cons_zero, List.set_cons_succ]
      refine wpAnyH_take_at (i := 23) 83 (.bool true) rfl rfl (by kernel_rfl) (by kernel_rfl) (by kernel_rfl) (fun _ _ _ h => h) (.inl ⟨by kernel_rfl, fun w9 _ => by go_simp⟩) hH ?_
      simp only [List.setIfInBounds_toArray, List.set_cons_zero, List.set_cons_succ]
      refine wpAnyH_take_at (i := 24) 6 (.bool true) rfl rfl (by kernel_rfl) (by kernel_rfl) (by kernel_rfl) (fun _ _ _ h => h) (.inl ⟨by kernel_rfl, fun w9 _ => by go_simp⟩) hH ?_
      simp only [List.setIfInBounds_toArray, List.set_cons_zero, List.set_cons_succ]
      refine wpAnyH_done (by kernel_rfl) ?_ _
      refine NoPanic.normal ?_
      go_wp2
      go_ret
      exact ⟨rfl, K6.out.next1 Kw10⟩
    · have hh : place < 0 ∨ ((2 ^ n : Nat) : Int) ≤ place := by rw [← hPN]; omega
      have HWI : Hid (∀ w, Calls Try.prog 27 #[.agg RW, .int .i64 place] w fun e w' => e = .returned (.bool false) ∧ Kept w.heap.size w.heap.size w w') := Lib.hid (fun w => by
        have h := HWI.out w
        rw [show (decide (0 ≤ place) && decide (place < ((2 ^ n : Nat) : Int))) = false by rw [← hPN, Bool.and_eq_false_iff, decide_eq_false_iff_not, decide_eq_false_iff_not]; omega] at h
        rw [HRW.out]
        exact h)
      have HH := Lib.hid hh
      have HQI := Lib.hid (show (Try.prog.info? 26).map (·.size) = some zeros32.size by rw [zeros32_size]; kernel_rfl)
      have HQS := Lib.hid zeros32_size
      have HQA := Lib.hid zeros32_all
      have heq : ∀ w, (Op.equalIn 10000 26 (.agg zeros32) (.agg zeros32)).run Try.prog w = .ok true w := fun w => by
        have := hash_equalIn w Pp.z32 Pp.z32 rfl rfl
        rwa [beq_self_eq_true, ← zeros_bcells] at this
      have HEQ := Lib.hid heq
      clear hh hPN hin heq
      go_upto_region 5 with fail
      refine wp_region_lit ?_
      refine @BigFrame.wpList_want _ _ _ _ _ _ _ ?hw1416 ?_
      case hw1416 => kernel_rfl
      intro K hK
      go_simp
      refine hK _ _ ?_
      clear hK K
      refine @BigFrame.wpList_want _ _ _ _ _ _ _ ?hw1417 ?_
      case hw1417 => kernel_rfl
      intro K hK
      go_simp
      refine hK _ _ ?_
      clear hK K
      refine @BigFrame.wpList_want _ _ _ _ _ _ _ ?hw1418 ?_
      case hw1418 => kernel_rfl
      intro K hK
      go_simp
      go_at_call 30
      refine (look_out n HN32.out _ rb sl place w3 HR3.out HH.out).mono ?_
      rintro e w4 ⟨rfl, k4⟩
      refine hK _ _ ?_
      clear hK K
      have K4 := Lib.hid (K3.out.next1 k4)
      have HR4 := Lib.hid (HR3.out.kept k4)
      have M4 := Lib.hid ((k4.block mb (lt_of_block M3.out) (Nat.ne_of_lt (lt_of_block M3.out))).trans M3.out)
      clear k4
      refine @BigFrame.wpList_want _ _ _ _ _ _ _ ?hw1419 ?_
      case hw1419 => kernel_rfl
      intro K hK
      go_simp
      refine hK _ _ ?_
      clear hK K
      refine @BigFrame.wpList_want _ _ _ _ _ _ _ ?hw1420 ?_
      case hw1420 => kernel_rfl
      intro K hK
      go_simp
      refine hK _ _ ?_
      clear hK K
      refine @BigFrame.wpList_want _ _ _ _ _ _ _ ?hw1421 ?_
      case hw1421 => kernel_rfl
      intro K hK
      go_simp
      refine hK _ _ ?_
      clear hK K
      refine wpList_alloc_k rfl 26 rfl (alloc_hash _) ?_
      simp only [Act.put, List.setIfInBounds_toArray, List.set_cons_zero, List.set_cons_succ]
      refine wpList_store_row rfl 26 _ _ rfl (w4.heap.size) zeros32 rfl rfl 26 zeros32 (heap_new _ _) (HQI.out) (zeros32_size.trans HQS.out.symm) (HQA.out) ?_
      simp only [Act.put]
      rw [World.setRow_alloc_new]
      have kk5 : Kept w4.heap.size w4.heap.size w4 (w4.alloc (.cells zeros32 26)) := (Kept.refl _ _ _).alloc (Nat.le_refl _) _
      have HR5 := Lib.hid (HR4.out.kept kk5)
      have K5 := Lib.hid (K4.out.next1 kk5)
      have M5 := Lib.hid ((kk5.block mb (lt_of_block M4.out) (Nat.ne_of_lt (lt_of_block M4.out))).trans M4.out)
      have Q5 := Lib.hid (heap_new w4 (.cells zeros32 26))
      clear kk5
      generalize w4.alloc (.cells zeros32 26) = w5 at HR5 K5 M5 Q5 ⊢
      obtain ⟨qb, hqb⟩ : ∃ qb, qb = w4.heap.size := ⟨_, rfl⟩
      rw [← hqb] at Q5 ⊢
      clear hqb
      refine @BigFrame.wpList_want _ _ _ _ _ _ _ ?hw1422 ?_
      case hw1422 => kernel_rfl
      intro K hK
      go_simp
      refine hK _ _ ?_
      clear hK K
      go_upto_region 6 with fail
      refine wp_region_lit ?_
      refine wpList_load_row rfl 60 (.tmp 9) rfl (mb) rfl 60 RW (0, 0) _ (M5.out) Try.underlying60 rfl (HRI.out) ?_
      simp only [Act.put, List.setIfInBounds_toArray, List.set_cons_zero, List.set_cons_succ]
      refine @BigFrame.wpList_want _ _ _ _ _ _ _ ?hw1423 ?_
      case hw1423 => kernel_rfl
      intro K hK
      go_simp
      refine hK _ _ ?_
      clear hK K
      refine @BigFrame.wpList_want _ _ _ _ _ _ _ ?hw1424 ?_
      case hw1424 => kernel_rfl
      intro K hK
      go_simp
      go_at_call 27
      refine (HWI.out _).mono ?_
      rintro e w6 ⟨rfl, k6⟩
      refine hK _ _ ?_
      clear hK K
      have K6 := Lib.hid (K5.out.next1 k6)
      have HR6 := Lib.hid (HR5.out.kept k6)
      have M6 := Lib.hid ((k6.block mb (lt_of_block M5.out) (Nat.ne_of_lt (lt_of_block M5.out))).trans M5.out)
      have Q6 := Lib.hid ((k6.block qb (lt_of_block Q5.out) (Nat.ne_of_lt (lt_of_block Q5.out))).trans Q5.out)
      clear k6
      refine @BigFrame.wpList_want _ _ _ _ _ _ _ ?hw1425 ?_
      case hw1425 => kernel_rfl
      intro K hK
      go_simp
      refine hK _ _ ?_
      clear hK K
      have heq := HEQ.out
      go_upto_region 7 with fail
      refine wp_region_lit ?_
      refine @BigFrame.wpList_want _ _ _ _ _ _ _ ?hw1426 ?_
      case hw1426 => kernel_rfl
      intro K hK
      go_simp
      go_at_call 25
      refine (ppr_awake _).mono ?_
      rintro e w7 ⟨rfl, k7⟩
      refine hK _ _ ?_
      clear hK K
      have K7 := Lib.hid (K6.out.next1 k7)
      have HR7 := Lib.hid (HR6.out.kept k7)
      have Q7 := Lib.hid ((k7.block qb (lt_of_block Q6.out) (Nat.ne_of_lt (lt_of_block Q6.out))).trans Q6.out)
      clear k7
      refine @BigFrame.wpList_want _ _ _ _ _ _ _ ?hw1427 ?_
      case hw1427 => kernel_rfl
      intro K hK
      go_simp
      refine hK _ _ ?_
      clear hK K
      refine @BigFrame.wpList_want _ _ _ _ _ _ _ ?hw1428 ?_
      case hw1428 => kernel_rfl
      intro K hK
      go_simp
      refine hK _ _ ?_
      clear hK K
      refine @BigFrame.wpList_want _ _ _ _ _ _ _ ?hw1429 ?_
      case hw1429 => kernel_rfl
      intro K hK
      go_simp
      refine hK _ _ ?_
      clear hK K
      refine @BigFrame.wpList_want _ _ _ _ _ _ _ ?hw1430 ?_
      case hw1430 => kernel_rfl
      intro K hK
      go_simp
      refine hK _ _ ?_
      clear hK K
      refine @BigFrame.wpList_want _ _ _ _ _ _ _ ?hw1431 ?_
      case hw1431 => kernel_rfl
      intro K hK
      go_simp
      refine hK _ _ ?_
      clear hK K
      refine @wpList_load_known _ _ _ _ _ _ _ ?hw1432 26 (.tmp 10) rfl (qb) 0 rfl (.agg zeros32) (run_loadVar_row w7 qb 26 26 zeros32 (0, 0) _ Q7.out Try.underlying26 rfl HQI.out) ?_
      case hw1432 => kernel_rfl
      simp only [Act.put, List.setIfInBounds_toArray, List.set_cons_zero, List.set_cons_succ]
      refine @wpList_build_none_g _ _ _ _ _ _ _ ?hw1433 26 rfl _ (build_zeroHash _) ?_
      case hw1433 => kernel_rfl
      simp only [Act.put, List.setIfInBounds_toArray, List.set_cons_zero, List.set_cons_succ]
      refine @BigFrame.wpList_want _ _ _ _ _ _ _ ?hw1434 ?_
      case hw1434 => kernel_rfl
      intro K hK
      go_simp
      refine hK _ _ ?_
      clear hK K
      refine @BigFrame.wpList_want _ _ _ _ _ _ _ ?hw1435 ?_
      case hw1435 => kernel_rfl
      intro K hK
      go_simp
      refine hK _ _ ?_
      clear hK K
      refine @BigFrame.wpList_want _ _ _ _ _ _ _ ?hw1436 ?_
      case hw1436 => kernel_rfl
      intro K hK
      go_simp
      refine hK _ _ ?_
      clear hK K
      refine @BigFrame.wpList_want _ _ _ _ _ _ _ ?hw1437 ?_
      case hw1437 => kernel_rfl
      intro K hK
      go_simp
      refine hK _ _ ?_
      clear hK K
      refine @BigFrame.wpList_want _ _ _ _ _ _ _ ?hw1438 ?_
      case hw1438 => kernel_rfl
      intro K hK
      go_simp
      refine hK _ _ ?_
      clear hK K
      refine @BigFrame.wpList_want _ _ _ _ _ _ _ ?hw1439 ?_
      case hw1439 => kernel_rfl
      intro K hK
      go_simp
      go_at_call 34
      refine (gone_out n HN32.out _ rb sl place w7 HR7.out HH.out).mono ?_
      rintro e w8 ⟨rfl, k8⟩
      refine hK _ _ ?_
      clear hK K
      have K8 := Lib.hid (K7.out.next1 k8)
      clear k8
      refine @BigFrame.wpList_want _ _ _ _ _ _ _ ?hw1440 ?_
      case hw1440 => kernel_rfl
      intro K hK
      go_simp
      refine hK _ _ ?_
      clear hK K
      refine @BigFrame.wpList_want _ _ _ _ _ _ _ ?hw1441 ?_
      case hw1441 => kernel_rfl
      intro K hK
      go_simp
      refine hK _ _ ?_
      clear hK K
      go_wp2
      go_ret
      exact ⟨rfl, K8.out⟩

end Go.Proofs.Ytcoljiopnfgjaaa
