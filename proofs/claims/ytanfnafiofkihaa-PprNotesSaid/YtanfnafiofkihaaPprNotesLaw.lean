/-
 The statement PprNotes: its walk.
-/
import Derived.Test.YtanfnafiofkihaaQF
import Derived.Test.YtanfnafiofkihaaQE
import Derived.Test.YtanfnafiofkihaaPB
import Derived.Test.YtanfnafiofkihaaQB
import Derived.Test.YtanfnafiofkihaaHeldEx

namespace Go.Proofs.Ytanfnafiofkihaa
open Go.RowKit Go.Lib

theorem yieldsIf_neq_structP {P : Program} {ops : Array Oper} {S : World → Prop} {a : Act} {op : Oper} (hw : Region.wanted op (yielded ops a.tmps) = true) (t t2 : TypeId) (x y : Operand) (ho : op.op = .binOp .neq t x y t2) (A B : Array Value) (hx : a.eval x = .agg A) (hy : a.eval y = .agg B) (hg : P.eqGuardType P.depth t = false) (r : Bool) (hr : ∀ w, (Op.equalIn 10000 t (.agg A) (.agg B)).run P w = .ok r w) : YieldsIf P ops S op (.bool (!r)) a :=
 .inl ⟨hw, fun w _ => by
  unfold execOp
  simp only [ho, hx, hy, Sem.run_bind, run_eqGuard_agg _ _ _ _ _ _ _ hg, run_neq_struct, hr, Result.andThen_ok, Sem.run_pure]⟩
theorem own_oneB {w : World} {base g : Nat} {x : List UInt8} (hb : base ≤ g) (hx : x.length = 32) (h : w.heap[g]? = some (.cells (bcells x).toArray 25 (0, 0))) : Own w base (.slice (some ⟨g, 0, none⟩) 1 1) [x] :=
 ⟨fun y hy => by rw [List.mem_singleton.1 hy]; exact hx, by rw [bcells_length]; simp [hx], .inr ⟨g, 1, _, rfl, hb, h, Nat.le_refl _, by unfold maxLen; omega, by rw [List.size_toArray, bcells_length, hx], by
  show (bcells x).toArray.toList.take 32 = bcells [x].flatten
  rw [List.take_of_length_le (by simp [bcells, hx])]
  simp⟩⟩

theorem own_h1 {w : World} {base g : Nat} {x : List UInt8} (hb : base ≤ g) (hx : x.length = 32) (h : w.heap[g]? = some (.cells (bcells x).toArray 26 (0, 0))) : OwnH w base (.slice (some ⟨g, 0, none⟩) 1 1) [x] :=
 ⟨fun y hy => by rw [List.mem_singleton.1 hy]; exact hx, by rw [bcells_length]; simp [hx], .inr ⟨g, 1, _, rfl, hb, h, Nat.le_refl _, by unfold maxLen; omega, by rw [List.size_toArray, bcells_length, hx], by
  show (bcells x).toArray.toList.take 32 = bcells [x].flatten
  rw [List.take_of_length_le (by simp [bcells, hx])]
  simp⟩⟩

set_option maxRecDepth 100000 in
set_option maxHeartbeats 12800000 in
theorem pprnotes_walk (l : List UInt8) (hl : l.length = 32) (bt : Nat) (hbt : bt < 256) (v : Value) (L : List (Int × Int)) (F : List (List UInt8)) (fv : Value) (w : World) (hL : Cls w v L) (hF : Hs w fv F) (hFW : Whole fv) :
  Calls Try.prog 4 #[.agg (bcells l).toArray, .int .u8 (bt : Int), v, fv] w fun e w' => e = .returned (.bool true) ∧ Kept w.heap.size w.heap.size w w' := by
 obtain ⟨cad, cc, cg, co, rfl, hc⟩ := hL
 have hF0 := hF
 obtain ⟨zp1, fad, fg, fo, fc, rfl, zp2⟩ := hF0
 clear zp1 zp2
 have hnew := fun n h1 h2 w => pnew_callsT l hl n h1 h2 w
 have hbld := fun n w => build_newRow w l hl n
 obtain ⟨LD, hLD⟩ : ∃ LD, LD = (bcells l).toArray := ⟨_, rfl⟩
 have HLI := Lib.hid (show (Try.prog.info? 26).map (·.size) = some LD.size by rw [hLD]; exact keyInfo hl)
 have HLS := Lib.hid (show LD.size = 32 by rw [hLD, List.size_toArray, bcells_length, hl])
 have HLA := Lib.hid (show LD.all (·.oneCell') = true by rw [hLD]; exact bcells_all _)
 simp only [← hLD] at hnew hbld
 rw [← hLD]
 have HNEW := Lib.hid hnew
 have HBLD := Lib.hid hbld
 have HLL := Lib.hid hl
 have HLD := Lib.hid hLD
 have HC := Lib.hid hc
 have HZI := Lib.hid (show (Try.prog.info? 26).map (·.size) = some zeros32.size by rw [zeros32_size]; kernel_rfl)
 have HF := Lib.hid hF
 have HFW := Lib.hid hFW
 obtain ⟨ln, hln⟩ : ∃ ln, ln = L.length := ⟨_, rfl⟩
 rw [← hln]
 have HLN := Lib.hid hln
 obtain ⟨fn, hfn⟩ : ∃ fn, fn = F.length := ⟨_, rfl⟩
 rw [← hfn] at HF HFW ⊢
 have HFN := Lib.hid hfn
 have hbt' : (bt : Int) < 256 := by omega
 have hk1 : Kept w.heap.size w.heap.size w (w.alloc (.cells LD 26)) := (Kept.refl _ _ _).alloc (Nat.le_refl _) _
 have hr1 := heap_new w (.cells LD 26)
 have K1 := Lib.hid hk1
 have R1 := Lib.hid hr1
 clear hLD hl hnew hbld hc hln hfn hF hFW hbt hk1 hr1
 go_enter Try.func4, Try.ntmps4
 go_upto_region 1 with fail
 generalize w.alloc (.cells LD 26) = w1 at K1 R1 ⊢
 obtain ⟨wa, hwa⟩ : ∃ wa, wa = w.heap.size := ⟨_, rfl⟩
 rw [← hwa] at R1 ⊢
 have HWA := Lib.hid hwa
 clear hwa
 by_cases hlen : ln ≤ 24
 ·have hlen' : (ln : Int) ≤ 24 := by omega
  have hng : ¬ (ln : Int) > 24 := by omega
  have HL24 := Lib.hid hlen
  clear hlen
  by_cases hflen : fn ≤ 24
  ·have hfl : ¬ (fn : Int) > 24 := by omega
   have HF24 := Lib.hid hflen
   clear hflen
   go_upto_region 3 with (go_at_call 23; refine (ppr_awake _).mono ?_; rintro e w2 ⟨rfl, k2⟩; have K2 := Lib.hid (K1.out.next1 k2); have R2 := Lib.hid ((k2.block wa (lt_of_block R1.out) (Nat.ne_of_lt (lt_of_block R1.out))).trans R1.out); clear k2)
   as_aux_lemma =>
    have hrem : ((bt : Int)).tmod 8 = ((bt % 8 : Nat) : Int) := rfl
    obtain ⟨n8, hn8⟩ : ∃ q, q = bt % 8 := ⟨_, rfl⟩
    rw [← hn8] at hrem
    have hn8l : n8 < 8 := by omega
    have hn8i : (n8 : Int) < 8 := by omega
    have HN8 := Lib.hid hn8l
    have HB8 := Lib.hid hn8
    clear hn8 hn8l
    go_upto_region 3 with fail
    refine wp_region_lit ?_
    refine @BigFrame.wpList_want _ _ _ _ _ _ _ ?hw141001 ?_
    case hw141001 => kernel_rfl
    intro K hK
    go_simp
    refine hK _ _ ?_
    clear hK K
    refine @BigFrame.wpList_want _ _ _ _ _ _ _ ?hw141002 ?_
    case hw141002 => kernel_rfl
    intro K hK
    go_simp
    refine hK _ _ ?_
    clear hK K
    refine @BigFrame.wpList_want _ _ _ _ _ _ _ ?hw141003 ?_
    case hw141003 => kernel_rfl
    intro K hK
    go_simp
    refine hK _ _ ?_
    clear hK K
    refine @BigFrame.wpList_want _ _ _ _ _ _ _ ?hw141004 ?_
    case hw141004 => kernel_rfl
    intro K hK
    go_simp
    refine hK _ _ ?_
    clear hK K
    refine @BigFrame.wpList_want _ _ _ _ _ _ _ ?hw141005 ?_
    case hw141005 => kernel_rfl
    intro K hK
    go_simp
    refine hK _ _ ?_
    clear hK K
    clear hrem
    have hsum : IntKind.i64.wrap (1 + IntKind.i64.wrap (n8 : Int)) = ((1 + n8 : Nat) : Int) := by
     have := HN8.out
     rw [IntKind.wrap_i64, IntKind.wrap_i64]
     omega
    obtain ⟨n, hn⟩ : ∃ n, n = 1 + n8 := ⟨_, rfl⟩
    rw [← hn] at hsum
    rw [hsum]
    have hn1 : 1 ≤ n := by omega
    have hn8' : n ≤ 8 := by have := HN8.out; omega
    have HN1 := Lib.hid hn1
    have HNL := Lib.hid hn8'
    clear hn hsum
    go_upto_region 4 with fail
    refine wp_region_lit ?_
    refine @BigFrame.wpList_want _ _ _ _ _ _ _ ?hw141006 ?_
    case hw141006 => kernel_rfl
    intro K hK
    go_simp
    go_at_call 7
    refine (new_book w2).mono ?_
    rintro e w3 ⟨bb, S0, rfl, hB, k3⟩
    have K3 := Lib.hid (K2.out.next1 k3)
    have B3 : Hid (Bx.InBk w3 w2.heap.size bb [] 0 (fun k => (Value.slice none 0 0).ownBlock = some k)) := Lib.hid ((Bx.inBk_of ⟨0, Nat.le_refl _, S0, hB⟩).less _ (fun k hk => by cases hk))
    have S3 := Lib.hid k3.size
    have W3 := Lib.hid K2.out.size
    have R3 := Lib.hid ((k3.block wa (lt_of_block R2.out) (Nat.ne_of_lt (lt_of_block R2.out))).trans R2.out)
    have WB := Lib.hid (lt_of_block R2.out)
    clear hB k3
    obtain ⟨b2, hb2⟩ : ∃ b, b = w2.heap.size := ⟨_, rfl⟩
    rw [← hb2] at B3 S3 W3 WB
    clear hb2
    refine hK _ _ ?_
    clear hK K
    refine @BigFrame.wpList_want _ _ _ _ _ _ _ ?hw141007 ?_
    case hw141007 => kernel_rfl
    intro K hK
    go_simp
    refine hK _ _ ?_
    clear hK K
    go_upto_region 5 with fail
    refine wp_region_lit ?_
    refine @wpList_load_known _ _ _ _ _ _ _ ?hw141009 26 (.tmp 4) rfl (wa) (0) rfl (.agg LD) (run_loadVar_row _ wa 26 26 LD (0, 0) _ (R3.out) Try.underlying26 rfl (HLI.out)) ?_
    case hw141009 => kernel_rfl
    simp only [Act.put, List.setIfInBounds_toArray, List.set_cons_zero, List.set_cons_succ]
    refine @BigFrame.wpList_want _ _ _ _ _ _ _ ?hw141010 ?_
    case hw141010 => kernel_rfl
    intro K hK
    go_simp
    refine hK _ _ ?_
    clear hK K
    refine @BigFrame.wpList_want _ _ _ _ _ _ _ ?hw141008 ?_
    case hw141008 => kernel_rfl
    intro K hK
    go_simp
    go_at_call 24
    refine (HNEW.out n HN1.out (by have := HNL.out; omega) _).mono ?_
    rintro e w5 ⟨rb, sl0, rfl, hrb, hr5, k5, ht5⟩
    have K5 := Lib.hid (K3.out.next1 k5)
    have B5 := Lib.hid (B3.out.kept k5)
    have R5 := Lib.hid ((k5.block wa (lt_of_block R3.out) (Nat.ne_of_lt (lt_of_block R3.out))).trans R3.out)
    have ROW5 := Lib.hid hr5
    have TY5 := Lib.hid ht5
    have HRB := Lib.hid (Nat.le_trans S3.out hrb)
    clear k5 hr5 ht5 hrb K3 B3 R3
    refine hK _ _ ?_
    clear hK K
    refine @BigFrame.wpList_want _ _ _ _ _ _ _ ?hw141011 ?_
    case hw141011 => kernel_rfl
    intro K hK
    go_simp
    refine hK _ _ ?_
    clear hK K
    refine @BigFrame.wpList_want _ _ _ _ _ _ _ ?hw141012 ?_
    case hw141012 => kernel_rfl
    intro K hK
    go_simp
    refine hK _ _ ?_
    clear hK K
    refine @BigFrame.wpList_want _ _ _ _ _ _ _ ?hw141013 ?_
    case hw141013 => kernel_rfl
    intro K hK
    go_simp
    refine hK _ _ ?_
    clear hK K
    refine @BigFrame.wpList_want _ _ _ _ _ _ _ ?hw141014 ?_
    case hw141014 => kernel_rfl
    intro K hK
    go_simp
    refine hK _ _ ?_
    clear hK K
    refine @BigFrame.wpList_want _ _ _ _ _ _ _ ?hw141015 ?_
    case hw141015 => kernel_rfl
    intro K hK
    go_simp
    refine hK _ _ ?_
    clear hK K
    go_upto_region 6 with fail
    refine wp_region_lit ?_
    refine @wpList_load_known _ _ _ _ _ _ _ ?hw141016 26 (.tmp 4) rfl (wa) (0) rfl (.agg LD) (run_loadVar_row _ wa 26 26 LD (0, 0) _ (R5.out) Try.underlying26 rfl (HLI.out)) ?_
    case hw141016 => kernel_rfl
    simp only [Act.put, List.setIfInBounds_toArray, List.set_cons_zero, List.set_cons_succ]
    refine @BigFrame.wpList_want _ _ _ _ _ _ _ ?hw141017 ?_
    case hw141017 => kernel_rfl
    intro K hK
    go_simp
    refine hK _ _ ?_
    clear hK K
    refine wpList_build_pair rfl 60 0 1 _ _ rfl (.agg LD) (.int .i64 (n : Int)) rfl rfl (HBLD.out n _) ?_
    simp only [Act.put, List.setIfInBounds_toArray, List.set_cons_zero, List.set_cons_succ]
    obtain ⟨RW, hRW⟩ : ∃ RW, RW = newRow l n := ⟨_, rfl⟩
    rw [← hRW]
    have HRS := Lib.hid (show RW.size = 34 by rw [hRW]; exact newRow_size HLL.out n)
    have HRA := Lib.hid (show RW.all (·.oneCell') = true by rw [hRW]; exact newRow_all l n)
    have HRI := Lib.hid (refRowInfo HRS.out)
    have HROW := Lib.hid hRW
    clear hRW
    refine @wpL_alloc _ _ _ _ _ _ _ _ ?hw141018 60 rfl _ (alloc_newRow _) ?_
    case hw141018 => kernel_rfl
    simp only [Act.put, List.setIfInBounds_toArray, List.set_cons_zero, List.set_cons_succ]
    refine wpList_store_row rfl 60 _ _ rfl (w5.heap.size) RW rfl rfl 60 zerosRow (heap_new _ _) (HRI.out) (by rw [zerosRow_size, HRS.out]) (HRA.out) ?_
    simp only [Act.put]
    rw [World.setRow_alloc_new]
    have kk4 : Kept w5.heap.size w5.heap.size w5 (w5.alloc (.cells RW 60)) := (Kept.refl _ _ _).alloc (Nat.le_refl _) _
    have hm4 := heap_new w5 (.cells RW 60)
    rw [HROW.out, newRow] at hm4
    have HP0 : Hid (Nl w (w5.alloc (.cells RW 60)) l n rb w5.heap.size wa bb b2 0 [] [] [] [] (.slice none 0 0) (.slice none 0 0) sl0) := Lib.hid (by
     refine ⟨by rw [← HLD.out]; exact (kk4.block _ (lt_of_block R5.out) (Nat.ne_of_lt (lt_of_block R5.out))).trans R5.out, ?_, TY5.out.kept kk4, by rw [HROW.out, newRow]; exact hm4, OwnI.nil _ _, OwnF.nil _ _, B5.out.kept kk4, K5.out.next1 kk4, W3.out, HRB.out, lt_of_block ROW5.out.1, lt_of_block R5.out, Nat.le_of_eq HWA.out.symm⟩
     rw [Pp.low_whole (show Pp.Whole n [] ⟨0, 0, l⟩ from fun _ h => nomatch h)]
     exact ROW5.out.kept kk4)
    clear kk4 hm4
    generalize w5.alloc (.cells RW 60) = w6 at HP0 ⊢
    obtain ⟨mb, hmb⟩ : ∃ mb, mb = w5.heap.size := ⟨_, rfl⟩
    rw [← hmb] at HP0 ⊢
    clear hmb ROW5 TY5 R5 B5 HRB K5 S3 W3 WB R2 K2
    go_wp2_with fail
    go_loopw [14, 15] (fun s14 s15 wr => ∃ i : Nat, s15 = .int .i64 (i : Int) ∧ Hid (i ≤ ln) ∧ ∃ (fs : Facts) (P : List Nat) (T sl : Value), Hid (P.length ≤ i) ∧ Hid (∀ t ∈ P, t < 4294967296) ∧ Hid (fs.length ≤ 40 * i ∧ ∀ g ∈ fs, g.1.length ≤ 2 ∧ g.2.length ≤ 2) ∧ Hid (Nl w wr l n rb mb wa bb b2 (99 * i) fs fs P P T s14 sl)) (fun _ s15 _ => ln - (RowKit.intOf s15).toNat)
    case atStart => exact ⟨0, rfl, Lib.hid (Nat.zero_le _), [], [], _, _, Lib.hid (Nat.le_refl _), Lib.hid (fun _ h => nomatch h), Lib.hid ⟨Nat.zero_le _, fun _ h => nomatch h⟩, HP0⟩
    case round =>
     obtain ⟨i, rfl, hi, fs, P, T, sl, HPI, H32, HFS, HN⟩ := hrel
     by_cases hlt : i < ln
     ·as_aux_lemma =>
       have hiL : i < L.length := by rw [← HLN.out]; exact hlt
       obtain ⟨had, hg, hdo0, hpl0, hd0, hd255⟩ := HC.out i hiL
       subst had
       have hlti : (i : Int) < (ln : Int) := by omega
       have hi0 : ¬ (i : Int) < 0 := by omega
       have HDO := Lib.hid (fun (u : World) (k : Kept w.heap.size w.heap.size w u) => (k.cell (p := ⟨cg, co + i * 2, none⟩) hg (Nat.ne_of_lt hg)).trans hdo0)
       have hpl := (HN.out.kept.cell (p := ⟨cg, co + i * 2 + 1, none⟩) hg (Nat.ne_of_lt hg)).trans hpl0
       generalize L[i].1 = dd at HDO hd0 hd255
       generalize L[i].2 = pl at hpl
       have HLT := Lib.hid hlt
       have hP1000 : P.length ≤ 1000 := by have := HPI.out; have := HL24.out; omega
       have HMK := Lib.hid (show MildK 99 fs (99 * i) from ⟨by have := HL24.out; omega, by have := HFS.out.1; have := HL24.out; omega, fun g hg => by have := HFS.out.2 g hg; omega⟩)
       clear hlt hi hg hdo0 hpl0 hiL
       obtain ⟨Ta, Tg, Tc, hTv, _⟩ := HN.out.own.shape
       subst hTv
       obtain ⟨TS, hTS⟩ : ∃ TS, TS = refRow l n (.slice Ta P.length Tc) := ⟨_, rfl⟩
       have HTS := Lib.hid hTS
       have HMI := Lib.hid (refRowInfo (show TS.size = 34 by rw [hTS]; exact refRow_size HLL.out n _))
       have HM := Lib.hid (fun x (h : Nl w x l n rb mb wa bb b2 (99 * i) fs fs P P (.slice Ta P.length Tc) u14 sl) => show x.heap[mb]? = some (.cells TS 60 (0, 0)) by rw [HTS.out]; exact h.m)
       have HM2 := Lib.hid (fun x (sl2 : Value) (h : Nl w x l n rb mb wa bb b2 (99 * i + 99) fs fs P P (.slice Ta P.length Tc) u14 sl2) => show x.heap[mb]? = some (.cells TS 60 (0, 0)) by rw [HTS.out]; exact h.m)
       have hwi := fun w => within_calls l HLL.out n (by have := HNL.out; omega) (.slice Ta P.length Tc) pl w
       rw [← hTS] at hwi
       clear hTS
       go_upto_region 9 with fail
       refine wp_region_lit ?_
       refine @BigFrame.wpList_want _ _ _ _ _ _ _ ?hw141019 ?_
       case hw141019 => kernel_rfl
       intro K hK
       go_simp
       refine hK _ _ ?_
       clear hK K
       refine @BigFrame.wpList_want _ _ _ _ _ _ _ ?hw141020 ?_
       case hw141020 => kernel_rfl
       intro K hK
       go_simp
       refine hK _ _ ?_
       clear hK K
       refine @BigFrame.wpList_want _ _ _ _ _ _ _ ?hw141021 ?_
       case hw141021 => kernel_rfl
       intro K hK
       go_simp
       refine hK _ _ ?_
       clear hK K
       refine @BigFrame.wpList_want _ _ _ _ _ _ _ ?hw141022 ?_
       case hw141022 => kernel_rfl
       intro K hK
       go_simp
       refine hK _ _ ?_
       clear hK K
       go_upto_region 11 with fail
       refine wp_region_lit ?_
       refine @BigFrame.wpList_want _ _ _ _ _ _ _ ?hw141023 ?_
       case hw141023 => kernel_rfl
       intro K hK
       go_simp
       refine hK _ _ ?_
       clear hK K
       refine @BigFrame.wpList_want _ _ _ _ _ _ _ ?hw141024 ?_
       case hw141024 => kernel_rfl
       intro K hK
       go_simp
       refine hK _ _ ?_
       clear hK K
       refine @BigFrame.wpList_want _ _ _ _ _ _ _ ?hw141025 ?_
       case hw141025 => kernel_rfl
       intro K hK
       go_simp
       refine hK _ _ ?_
       clear hK K
       refine @BigFrame.wpList_want _ _ _ _ _ _ _ ?hw141026 ?_
       case hw141026 => kernel_rfl
       intro K hK
       go_simp
       refine hK _ _ ?_
       clear hK K
       refine @BigFrame.wpList_want _ _ _ _ _ _ _ ?hw141027 ?_
       case hw141027 => kernel_rfl
       intro K hK
       go_simp
       refine hK _ _ ?_
       clear hK K
       refine @BigFrame.wpList_want _ _ _ _ _ _ _ ?hw141028 ?_
       case hw141028 => kernel_rfl
       intro K hK
       go_simp
       refine hK _ _ ?_
       clear hK K
       clear hpl
       by_cases hpo : pl < 0 ∨ ((2 ^ n : Nat) : Int) ≤ pl
       ·have ho : Pp.Out n P l pl Pp.z32 1 P := .out hpo
        have HWI : Hid (∀ w, Calls Try.prog 25 #[.agg TS, .int .i64 pl] w fun e w' => e = .returned (.bool false) ∧ Kept w.heap.size w.heap.size w w') := Lib.hid (fun w => by
         have h := hwi w
         rwa [show (decide (0 ≤ pl) && decide (pl < ((2 ^ n : Nat) : Int))) = false by rw [Bool.and_eq_false_iff, decide_eq_false_iff_not, decide_eq_false_iff_not]; omega] at h)
        clear hwi
        as_aux_lemma =>
         have hnt : Pp.noted n P l pl fs = fs := Pp.noted_out n P l pl fs hpo
         have HLK := Lib.hid (fun (u : World) (h : Nl w u l n rb mb wa bb b2 (99 * i) fs fs P P (.slice Ta P.length Tc) u14 sl) => (by have h9 := Bx.play_look_book b2 bb (99 * i) fs _ n (by have := HNL.out; omega) P hP1000 l HLL.out rb pl ho sl u h.row h.bk h.base h.xlt HMK.out h.typ; rw [hnt] at h9; exact h9 : Calls Try.prog 28 #[.pointer (some ⟨rb, 0, none⟩), .pointer (some ⟨bb, 0, none⟩), .int .i64 pl] u fun e w' => e = .returned (.tuple #[.agg (bcells Pp.z32).toArray, .int .i64 1]) ∧ Bx.InBk w' b2 bb fs (99 * i + 99) (fun k => (Value.slice Ta P.length Tc).ownBlock = some k) ∧ Bx.BkFr b2 (fun k => (Value.slice Ta P.length Tc).ownBlock = some k) u w'))
         have HTK := Lib.hid (fun (u : World) (h : Nl w u l n rb mb wa bb b2 (99 * i) fs fs P P (.slice Ta P.length Tc) u14 sl) => (by have h9 := Bx.play_take_book b2 bb (99 * i) fs _ n (by have := HNL.out; omega) P hP1000 l HLL.out rb pl ho sl u h.row h.bk h.base h.xlt HMK.out h.typ h.lor; rw [hnt] at h9; exact h9 : Calls Try.prog 29 #[.pointer (some ⟨rb, 0, none⟩), .pointer (some ⟨bb, 0, none⟩), .int .i64 pl] u fun e w' => e = .returned (.tuple #[.agg (bcells Pp.z32).toArray, .int .i64 1]) ∧ ∃ sl', RowIs w' rb n sl' (Pp.low n P n ⟨0, 0, l⟩) ∧ Bx.InBk w' b2 bb fs (99 * i + 99) (fun k => (Value.slice Ta P.length Tc).ownBlock = some k) ∧ Bx.BkBut b2 (fun k => (Value.slice Ta P.length Tc).ownBlock = some k) rb u w' ∧ NearT u w' sl sl'))
         clear ho hnt hP1000 hpo
         go_upto_region 12 with fail
         refine wp_region_lit ?_
         refine @wpList_load_known _ _ _ _ _ _ _ ?hw141030 60 (.tmp 13) rfl (mb) (0) rfl (.agg TS) (run_loadVar_row _ mb 60 60 TS (0, 0) _ ((HM.out _ HN.out)) Try.underlying60 rfl (HMI.out)) ?_
         case hw141030 => kernel_rfl
         simp only [Act.put, List.setIfInBounds_toArray, List.set_cons_zero, List.set_cons_succ]
         refine @BigFrame.wpList_want _ _ _ _ _ _ _ ?hw141031 ?_
         case hw141031 => kernel_rfl
         intro K hK
         go_simp
         refine hK _ _ ?_
         clear hK K
         refine @BigFrame.wpList_want _ _ _ _ _ _ _ ?hw141029 ?_
         case hw141029 => kernel_rfl
         intro K hK
         go_simp
         go_at_call 25
         refine (HWI.out _).mono ?_
         rintro e x2 ⟨rfl, k2⟩
         have N2 := Lib.hid (HN.out.step k2)
         clear k2
         refine hK _ _ ?_
         clear hK K
         refine @BigFrame.wpList_want _ _ _ _ _ _ _ ?hw141032 ?_
         case hw141032 => kernel_rfl
         intro K hK
         go_simp
         refine hK _ _ ?_
         clear hK K
         refine @wpList_skip _ _ _ _ _ _ _ ?hw141033 ?_
         case hw141033 => kernel_rfl
         simp only [Act.put, List.setIfInBounds_toArray, List.set_cons_zero, List.set_cons_succ]
         refine @wpList_skip _ _ _ _ _ _ _ ?hw141034 ?_
         case hw141034 => kernel_rfl
         simp only [Act.put, List.setIfInBounds_toArray, List.set_cons_zero, List.set_cons_succ]
         refine @wpList_skip _ _ _ _ _ _ _ ?hw141035 ?_
         case hw141035 => kernel_rfl
         simp only [Act.put, List.setIfInBounds_toArray, List.set_cons_zero, List.set_cons_succ]
         refine @wpList_skip _ _ _ _ _ _ _ ?hw141036 ?_
         case hw141036 => kernel_rfl
         simp only [Act.put, List.setIfInBounds_toArray, List.set_cons_zero, List.set_cons_succ]
         refine @BigFrame.wpList_want _ _ _ _ _ _ _ ?hw141037 ?_
         case hw141037 => kernel_rfl
         intro K hK
         go_simp
         refine hK _ _ ?_
         clear hK K
         have hdo : x2.cell? ⟨cg, co + i * 2, none⟩ = some (.int .u8 dd) := HDO.out _ N2.out.kept
         by_cases hev : dd.tmod 2 = 0
         ·have hbe : (dd.tmod 2 == 0) = true := by rw [beq_iff_eq]; exact hev
          clear hev
          go_upto_region 18 with fail
          refine wp_region_lit ?_
          refine @BigFrame.wpList_want _ _ _ _ _ _ _ ?hw141038 ?_
          case hw141038 => kernel_rfl
          intro K hK
          go_simp
          refine hK _ _ ?_
          clear hK K
          refine @BigFrame.wpList_want _ _ _ _ _ _ _ ?hw141039 ?_
          case hw141039 => kernel_rfl
          intro K hK
          go_simp
          refine hK _ _ ?_
          clear hK K
          refine @BigFrame.wpList_want _ _ _ _ _ _ _ ?hw141040 ?_
          case hw141040 => kernel_rfl
          intro K hK
          go_simp
          refine hK _ _ ?_
          clear hK K
          refine @BigFrame.wpList_want _ _ _ _ _ _ _ ?hw141041 ?_
          case hw141041 => kernel_rfl
          intro K hK
          go_simp
          refine hK _ _ ?_
          clear hK K
          refine @BigFrame.wpList_want _ _ _ _ _ _ _ ?hw141042 ?_
          case hw141042 => kernel_rfl
          intro K hK
          go_simp
          refine hK _ _ ?_
          clear hK K
          refine @BigFrame.wpList_want _ _ _ _ _ _ _ ?hw141043 ?_
          case hw141043 => kernel_rfl
          intro K hK
          go_simp
          refine hK _ _ ?_
          clear hK K
          refine @BigFrame.wpList_want _ _ _ _ _ _ _ ?hw141044 ?_
          case hw141044 => kernel_rfl
          intro K hK
          go_simp
          refine hK _ _ ?_
          clear hK K
          clear hdo hbe
          go_upto_region 19 with fail
          refine wp_region_lit ?_
          refine @BigFrame.wpList_want _ _ _ _ _ _ _ ?hw141046 ?_
          case hw141046 => kernel_rfl
          intro K hK
          go_simp
          refine hK _ _ ?_
          clear hK K
          refine @BigFrame.wpList_want _ _ _ _ _ _ _ ?hw141047 ?_
          case hw141047 => kernel_rfl
          intro K hK
          go_simp
          refine hK _ _ ?_
          clear hK K
          refine @BigFrame.wpList_want _ _ _ _ _ _ _ ?hw141048 ?_
          case hw141048 => kernel_rfl
          intro K hK
          go_simp
          refine hK _ _ ?_
          clear hK K
          refine @BigFrame.wpList_want _ _ _ _ _ _ _ ?hw141045 ?_
          case hw141045 => kernel_rfl
          intro K hK
          go_simp
          go_at_call 28
          refine (HLK.out _ N2.out).mono ?_
          rintro e x3 ⟨rfl, q3, f3⟩
          have N3 := Lib.hid (N2.out.look q3 f3)
          clear q3 f3
          refine hK _ _ ?_
          clear hK K
          go_wp2
          go_roundw
          case rel => exact ⟨i + 1, by simp, Lib.hid HLT.out, fs, P, .slice Ta P.length Tc, sl, Lib.hid (by have := HPI.out; omega), H32, Lib.hid ⟨by have := HFS.out.1; omega, HFS.out.2⟩, Lib.hid (by have := N3.out; rwa [show 99 * i + 99 = 99 * (i + 1) by omega] at this)⟩
          case measure => have := HLT.out; simp [RowKit.intOf]; omega
         ·have hbe : (dd.tmod 2 == 0) = false := by rw [beq_eq_false_iff_ne]; exact hev
          clear hev
          go_upto_region 18 with fail
          refine wp_region_lit ?_
          refine @BigFrame.wpList_want _ _ _ _ _ _ _ ?hw141049 ?_
          case hw141049 => kernel_rfl
          intro K hK
          go_simp
          refine hK _ _ ?_
          clear hK K
          refine @BigFrame.wpList_want _ _ _ _ _ _ _ ?hw141050 ?_
          case hw141050 => kernel_rfl
          intro K hK
          go_simp
          refine hK _ _ ?_
          clear hK K
          refine @BigFrame.wpList_want _ _ _ _ _ _ _ ?hw141051 ?_
          case hw141051 => kernel_rfl
          intro K hK
          go_simp
          refine hK _ _ ?_
          clear hK K
          refine @BigFrame.wpList_want _ _ _ _ _ _ _ ?hw141052 ?_
          case hw141052 => kernel_rfl
          intro K hK
          go_simp
          refine hK _ _ ?_
          clear hK K
          refine @BigFrame.wpList_want _ _ _ _ _ _ _ ?hw141053 ?_
          case hw141053 => kernel_rfl
          intro K hK
          go_simp
          refine hK _ _ ?_
          clear hK K
          refine @BigFrame.wpList_want _ _ _ _ _ _ _ ?hw141054 ?_
          case hw141054 => kernel_rfl
          intro K hK
          go_simp
          refine hK _ _ ?_
          clear hK K
          refine @BigFrame.wpList_want _ _ _ _ _ _ _ ?hw141055 ?_
          case hw141055 => kernel_rfl
          intro K hK
          go_simp
          refine hK _ _ ?_
          clear hK K
          clear hdo hbe
          go_upto_region 20 with fail
          refine wp_region_lit ?_
          refine @BigFrame.wpList_want _ _ _ _ _ _ _ ?hw141057 ?_
          case hw141057 => kernel_rfl
          intro K hK
          go_simp
          refine hK _ _ ?_
          clear hK K
          refine @BigFrame.wpList_want _ _ _ _ _ _ _ ?hw141058 ?_
          case hw141058 => kernel_rfl
          intro K hK
          go_simp
          refine hK _ _ ?_
          clear hK K
          refine @BigFrame.wpList_want _ _ _ _ _ _ _ ?hw141059 ?_
          case hw141059 => kernel_rfl
          intro K hK
          go_simp
          refine hK _ _ ?_
          clear hK K
          refine @BigFrame.wpList_want _ _ _ _ _ _ _ ?hw141056 ?_
          case hw141056 => kernel_rfl
          intro K hK
          go_simp
          go_at_call 29
          refine (HTK.out _ N2.out).mono ?_
          rintro e x3 ⟨rfl, sl2, hr3, q3, f3, hn3⟩
          have N3 := Lib.hid (N2.out.take hr3 q3 f3 hn3)
          clear q3 f3 hr3 hn3
          refine hK _ _ ?_
          clear hK K
          go_upto_region 21 with fail
          refine wp_region_lit ?_
          refine @wpList_load_known _ _ _ _ _ _ _ ?hw141061 60 (.tmp 13) rfl (mb) (0) rfl (.agg TS) (run_loadVar_row _ mb 60 60 TS (0, 0) _ ((HM2.out _ _ N3.out)) Try.underlying60 rfl (HMI.out)) ?_
          case hw141061 => kernel_rfl
          simp only [Act.put, List.setIfInBounds_toArray, List.set_cons_zero, List.set_cons_succ]
          refine @BigFrame.wpList_want _ _ _ _ _ _ _ ?hw141062 ?_
          case hw141062 => kernel_rfl
          intro K hK
          go_simp
          refine hK _ _ ?_
          clear hK K
          refine @BigFrame.wpList_want _ _ _ _ _ _ _ ?hw141060 ?_
          case hw141060 => kernel_rfl
          intro K hK
          go_simp
          go_at_call 25
          refine (HWI.out _).mono ?_
          rintro e x4 ⟨rfl, k4⟩
          have N4 := Lib.hid (N3.out.step k4)
          clear k4
          refine hK _ _ ?_
          clear hK K
          refine @BigFrame.wpList_want _ _ _ _ _ _ _ ?hw141063 ?_
          case hw141063 => kernel_rfl
          intro K hK
          go_simp
          refine hK _ _ ?_
          clear hK K
          refine @wpList_skip _ _ _ _ _ _ _ ?hw141064 ?_
          case hw141064 => kernel_rfl
          simp only [Act.put, List.setIfInBounds_toArray, List.set_cons_zero, List.set_cons_succ]
          refine @wpList_skip _ _ _ _ _ _ _ ?hw141065 ?_
          case hw141065 => kernel_rfl
          simp only [Act.put, List.setIfInBounds_toArray, List.set_cons_zero, List.set_cons_succ]
          refine @wpList_skip _ _ _ _ _ _ _ ?hw141066 ?_
          case hw141066 => kernel_rfl
          simp only [Act.put, List.setIfInBounds_toArray, List.set_cons_zero, List.set_cons_succ]
          refine @wpList_skip _ _ _ _ _ _ _ ?hw141067 ?_
          case hw141067 => kernel_rfl
          simp only [Act.put, List.setIfInBounds_toArray, List.set_cons_zero, List.set_cons_succ]
          refine @BigFrame.wpList_want _ _ _ _ _ _ _ ?hw141068 ?_
          case hw141068 => kernel_rfl
          intro K hK
          go_simp
          refine hK _ _ ?_
          clear hK K
          go_wp2
          go_roundw
          case rel => exact ⟨i + 1, by simp, Lib.hid HLT.out, fs, P, .slice Ta P.length Tc, sl2, Lib.hid (by have := HPI.out; omega), H32, Lib.hid ⟨by have := HFS.out.1; omega, HFS.out.2⟩, Lib.hid (by have := N4.out; rwa [show 99 * i + 99 = 99 * (i + 1) by omega] at this)⟩
          case measure => have := HLT.out; simp [RowKit.intOf]; omega
       ·obtain ⟨p, rfl⟩ : ∃ p : Nat, pl = (p : Int) := ⟨pl.toNat, by omega⟩
        have hp : p < 2 ^ n := by omega
        have hp32 : p < 4294967296 := Nat.lt_of_lt_of_le hp (Nat.pow_le_pow_right (by decide) (show n ≤ 32 by have := HNL.out; omega))
        have HWI : Hid (∀ w, Calls Try.prog 25 #[.agg TS, .int .i64 (p : Int)] w fun e w' => e = .returned (.bool true) ∧ Kept w.heap.size w.heap.size w w') := Lib.hid (fun w => by
         have h := hwi w
         rwa [show (decide (0 ≤ (p : Int)) && decide ((p : Int) < ((2 ^ n : Nat) : Int))) = true by rw [Bool.and_eq_true_iff, decide_eq_true_iff, decide_eq_true_iff]; omega] at h)
        have hrg := fun w h => refgone_calls l HLL.out n (.slice Ta P.length Tc) P hP1000 p hp32 w h
        rw [← HTS.out] at hrg
        clear hwi hpo
        by_cases hmem : p ∈ P
        ·have ho : Pp.Out n P l (p : Int) Pp.z32 10 P := .gone p rfl hp hmem
         rw [decide_eq_true hmem] at hrg
         have HRG := Lib.hid hrg
         clear hrg hp hp32
         as_aux_lemma =>
          have hnt : Pp.noted n P l (p : Int) fs = fs := Pp.noted_gone n P l p fs hmem
          have HLK := Lib.hid (fun (u : World) (h : Nl w u l n rb mb wa bb b2 (99 * i) fs fs P P (.slice Ta P.length Tc) u14 sl) => (by have h9 := Bx.play_look_book b2 bb (99 * i) fs _ n (by have := HNL.out; omega) P hP1000 l HLL.out rb (p : Int) ho sl u h.row h.bk h.base h.xlt HMK.out h.typ; rw [hnt] at h9; exact h9 : Calls Try.prog 28 #[.pointer (some ⟨rb, 0, none⟩), .pointer (some ⟨bb, 0, none⟩), .int .i64 (p : Int)] u fun e w' => e = .returned (.tuple #[.agg (bcells Pp.z32).toArray, .int .i64 10]) ∧ Bx.InBk w' b2 bb fs (99 * i + 99) (fun k => (Value.slice Ta P.length Tc).ownBlock = some k) ∧ Bx.BkFr b2 (fun k => (Value.slice Ta P.length Tc).ownBlock = some k) u w'))
          have HTK := Lib.hid (fun (u : World) (h : Nl w u l n rb mb wa bb b2 (99 * i) fs fs P P (.slice Ta P.length Tc) u14 sl) => (by have h9 := Bx.play_take_book b2 bb (99 * i) fs _ n (by have := HNL.out; omega) P hP1000 l HLL.out rb (p : Int) ho sl u h.row h.bk h.base h.xlt HMK.out h.typ h.lor; rw [hnt] at h9; exact h9 : Calls Try.prog 29 #[.pointer (some ⟨rb, 0, none⟩), .pointer (some ⟨bb, 0, none⟩), .int .i64 (p : Int)] u fun e w' => e = .returned (.tuple #[.agg (bcells Pp.z32).toArray, .int .i64 10]) ∧ ∃ sl', RowIs w' rb n sl' (Pp.low n P n ⟨0, 0, l⟩) ∧ Bx.InBk w' b2 bb fs (99 * i + 99) (fun k => (Value.slice Ta P.length Tc).ownBlock = some k) ∧ Bx.BkBut b2 (fun k => (Value.slice Ta P.length Tc).ownBlock = some k) rb u w' ∧ NearT u w' sl sl'))
          clear ho hnt hP1000 hmem
          go_upto_region 12 with fail
          refine wp_region_lit ?_
          refine @wpList_load_known _ _ _ _ _ _ _ ?hw141071 60 (.tmp 13) rfl (mb) (0) rfl (.agg TS) (run_loadVar_row _ mb 60 60 TS (0, 0) _ ((HM.out _ HN.out)) Try.underlying60 rfl (HMI.out)) ?_
          case hw141071 => kernel_rfl
          simp only [Act.put, List.setIfInBounds_toArray, List.set_cons_zero, List.set_cons_succ]
          refine @BigFrame.wpList_want _ _ _ _ _ _ _ ?hw141072 ?_
          case hw141072 => kernel_rfl
          intro K hK
          go_simp
          refine hK _ _ ?_
          clear hK K
          refine @BigFrame.wpList_want _ _ _ _ _ _ _ ?hw141069 ?_
          case hw141069 => kernel_rfl
          intro K hK
          go_simp
          go_at_call 25
          refine (HWI.out _).mono ?_
          rintro e x2 ⟨rfl, k2⟩
          have N2 := Lib.hid (HN.out.step k2)
          clear k2
          refine hK _ _ ?_
          clear hK K
          refine @BigFrame.wpList_want _ _ _ _ _ _ _ ?hw141073 ?_
          case hw141073 => kernel_rfl
          intro K hK
          go_simp
          refine hK _ _ ?_
          clear hK K
          refine @wpList_load_known _ _ _ _ _ _ _ ?hw141074 60 (.tmp 13) rfl (mb) (0) rfl (.agg TS) (run_loadVar_row _ mb 60 60 TS (0, 0) _ ((HM.out _ N2.out)) Try.underlying60 rfl (HMI.out)) ?_
          case hw141074 => kernel_rfl
          simp only [Act.put, List.setIfInBounds_toArray, List.set_cons_zero, List.set_cons_succ]
          refine @BigFrame.wpList_want _ _ _ _ _ _ _ ?hw141075 ?_
          case hw141075 => kernel_rfl
          intro K hK
          go_simp
          refine hK _ _ ?_
          clear hK K
          refine @BigFrame.wpList_want _ _ _ _ _ _ _ ?hw141070 ?_
          case hw141070 => kernel_rfl
          intro K hK
          go_simp
          go_at_call 26
          refine (HRG.out _ N2.out.own.gones).mono ?_
          rintro e y2 ⟨rfl, k2⟩
          have M2 := Lib.hid (N2.out.step k2)
          clear k2
          refine hK _ _ ?_
          clear hK K
          refine @BigFrame.wpList_want _ _ _ _ _ _ _ ?hw141076 ?_
          case hw141076 => kernel_rfl
          intro K hK
          go_simp
          refine hK _ _ ?_
          clear hK K
          refine @BigFrame.wpList_want _ _ _ _ _ _ _ ?hw141077 ?_
          case hw141077 => kernel_rfl
          intro K hK
          go_simp
          refine hK _ _ ?_
          clear hK K
          have hdo : y2.cell? ⟨cg, co + i * 2, none⟩ = some (.int .u8 dd) := HDO.out _ M2.out.kept
          by_cases hev : dd.tmod 2 = 0
          ·have hbe : (dd.tmod 2 == 0) = true := by rw [beq_iff_eq]; exact hev
           clear hev
           go_upto_region 18 with fail
           refine wp_region_lit ?_
           refine @BigFrame.wpList_want _ _ _ _ _ _ _ ?hw141078 ?_
           case hw141078 => kernel_rfl
           intro K hK
           go_simp
           refine hK _ _ ?_
           clear hK K
           refine @BigFrame.wpList_want _ _ _ _ _ _ _ ?hw141079 ?_
           case hw141079 => kernel_rfl
           intro K hK
           go_simp
           refine hK _ _ ?_
           clear hK K
           refine @BigFrame.wpList_want _ _ _ _ _ _ _ ?hw141080 ?_
           case hw141080 => kernel_rfl
           intro K hK
           go_simp
           refine hK _ _ ?_
           clear hK K
           refine @BigFrame.wpList_want _ _ _ _ _ _ _ ?hw141081 ?_
           case hw141081 => kernel_rfl
           intro K hK
           go_simp
           refine hK _ _ ?_
           clear hK K
           refine @BigFrame.wpList_want _ _ _ _ _ _ _ ?hw141082 ?_
           case hw141082 => kernel_rfl
           intro K hK
           go_simp
           refine hK _ _ ?_
           clear hK K
           refine @BigFrame.wpList_want _ _ _ _ _ _ _ ?hw141083 ?_
           case hw141083 => kernel_rfl
           intro K hK
           go_simp
           refine hK _ _ ?_
           clear hK K
           refine @BigFrame.wpList_want _ _ _ _ _ _ _ ?hw141084 ?_
           case hw141084 => kernel_rfl
           intro K hK
           go_simp
           refine hK _ _ ?_
           clear hK K
           clear hdo hbe
           go_upto_region 19 with fail
           refine wp_region_lit ?_
           refine @BigFrame.wpList_want _ _ _ _ _ _ _ ?hw141086 ?_
           case hw141086 => kernel_rfl
           intro K hK
           go_simp
           refine hK _ _ ?_
           clear hK K
           refine @BigFrame.wpList_want _ _ _ _ _ _ _ ?hw141087 ?_
           case hw141087 => kernel_rfl
           intro K hK
           go_simp
           refine hK _ _ ?_
           clear hK K
           refine @BigFrame.wpList_want _ _ _ _ _ _ _ ?hw141088 ?_
           case hw141088 => kernel_rfl
           intro K hK
           go_simp
           refine hK _ _ ?_
           clear hK K
           refine @BigFrame.wpList_want _ _ _ _ _ _ _ ?hw141085 ?_
           case hw141085 => kernel_rfl
           intro K hK
           go_simp
           go_at_call 28
           refine (HLK.out _ M2.out).mono ?_
           rintro e x3 ⟨rfl, q3, f3⟩
           have N3 := Lib.hid (M2.out.look q3 f3)
           clear q3 f3
           refine hK _ _ ?_
           clear hK K
           go_wp2
           go_roundw
           case rel => exact ⟨i + 1, by simp, Lib.hid HLT.out, fs, P, .slice Ta P.length Tc, sl, Lib.hid (by have := HPI.out; omega), H32, Lib.hid ⟨by have := HFS.out.1; omega, HFS.out.2⟩, Lib.hid (by have := N3.out; rwa [show 99 * i + 99 = 99 * (i + 1) by omega] at this)⟩
           case measure => have := HLT.out; simp [RowKit.intOf]; omega
          ·have hbe : (dd.tmod 2 == 0) = false := by rw [beq_eq_false_iff_ne]; exact hev
           clear hev
           go_upto_region 18 with fail
           refine wp_region_lit ?_
           refine @BigFrame.wpList_want _ _ _ _ _ _ _ ?hw141089 ?_
           case hw141089 => kernel_rfl
           intro K hK
           go_simp
           refine hK _ _ ?_
           clear hK K
           refine @BigFrame.wpList_want _ _ _ _ _ _ _ ?hw141090 ?_
           case hw141090 => kernel_rfl
           intro K hK
           go_simp
           refine hK _ _ ?_
           clear hK K
           refine @BigFrame.wpList_want _ _ _ _ _ _ _ ?hw141091 ?_
           case hw141091 => kernel_rfl
           intro K hK
           go_simp
           refine hK _ _ ?_
           clear hK K
           refine @BigFrame.wpList_want _ _ _ _ _ _ _ ?hw141092 ?_
           case hw141092 => kernel_rfl
           intro K hK
           go_simp
           refine hK _ _ ?_
           clear hK K
           refine @BigFrame.wpList_want _ _ _ _ _ _ _ ?hw141093 ?_
           case hw141093 => kernel_rfl
           intro K hK
           go_simp
           refine hK _ _ ?_
           clear hK K
           refine @BigFrame.wpList_want _ _ _ _ _ _ _ ?hw141094 ?_
           case hw141094 => kernel_rfl
           intro K hK
           go_simp
           refine hK _ _ ?_
           clear hK K
           refine @BigFrame.wpList_want _ _ _ _ _ _ _ ?hw141095 ?_
           case hw141095 => kernel_rfl
           intro K hK
           go_simp
           refine hK _ _ ?_
           clear hK K
           clear hdo hbe
           go_upto_region 20 with fail
           refine wp_region_lit ?_
           refine @BigFrame.wpList_want _ _ _ _ _ _ _ ?hw141097 ?_
           case hw141097 => kernel_rfl
           intro K hK
           go_simp
           refine hK _ _ ?_
           clear hK K
           refine @BigFrame.wpList_want _ _ _ _ _ _ _ ?hw141098 ?_
           case hw141098 => kernel_rfl
           intro K hK
           go_simp
           refine hK _ _ ?_
           clear hK K
           refine @BigFrame.wpList_want _ _ _ _ _ _ _ ?hw141099 ?_
           case hw141099 => kernel_rfl
           intro K hK
           go_simp
           refine hK _ _ ?_
           clear hK K
           refine @BigFrame.wpList_want _ _ _ _ _ _ _ ?hw141096 ?_
           case hw141096 => kernel_rfl
           intro K hK
           go_simp
           go_at_call 29
           refine (HTK.out _ M2.out).mono ?_
           rintro e x3 ⟨rfl, sl2, hr3, q3, f3, hn3⟩
           have N3 := Lib.hid (M2.out.take hr3 q3 f3 hn3)
           clear q3 f3 hr3 hn3
           refine hK _ _ ?_
           clear hK K
           go_upto_region 21 with fail
           refine wp_region_lit ?_
           refine @wpList_load_known _ _ _ _ _ _ _ ?hw141102 60 (.tmp 13) rfl (mb) (0) rfl (.agg TS) (run_loadVar_row _ mb 60 60 TS (0, 0) _ ((HM2.out _ _ N3.out)) Try.underlying60 rfl (HMI.out)) ?_
           case hw141102 => kernel_rfl
           simp only [Act.put, List.setIfInBounds_toArray, List.set_cons_zero, List.set_cons_succ]
           refine @BigFrame.wpList_want _ _ _ _ _ _ _ ?hw141103 ?_
           case hw141103 => kernel_rfl
           intro K hK
           go_simp
           refine hK _ _ ?_
           clear hK K
           refine @BigFrame.wpList_want _ _ _ _ _ _ _ ?hw141100 ?_
           case hw141100 => kernel_rfl
           intro K hK
           go_simp
           go_at_call 25
           refine (HWI.out _).mono ?_
           rintro e x4 ⟨rfl, k4⟩
           have N4 := Lib.hid (N3.out.step k4)
           clear k4
           refine hK _ _ ?_
           clear hK K
           refine @BigFrame.wpList_want _ _ _ _ _ _ _ ?hw141104 ?_
           case hw141104 => kernel_rfl
           intro K hK
           go_simp
           refine hK _ _ ?_
           clear hK K
           refine @wpList_load_known _ _ _ _ _ _ _ ?hw141105 60 (.tmp 13) rfl (mb) (0) rfl (.agg TS) (run_loadVar_row _ mb 60 60 TS (0, 0) _ ((HM2.out _ _ N4.out)) Try.underlying60 rfl (HMI.out)) ?_
           case hw141105 => kernel_rfl
           simp only [Act.put, List.setIfInBounds_toArray, List.set_cons_zero, List.set_cons_succ]
           refine @BigFrame.wpList_want _ _ _ _ _ _ _ ?hw141106 ?_
           case hw141106 => kernel_rfl
           intro K hK
           go_simp
           refine hK _ _ ?_
           clear hK K
           refine @BigFrame.wpList_want _ _ _ _ _ _ _ ?hw141101 ?_
           case hw141101 => kernel_rfl
           intro K hK
           go_simp
           go_at_call 26
           refine (HRG.out _ N4.out.own.gones).mono ?_
           rintro e y4 ⟨rfl, k4⟩
           have M4 := Lib.hid (N4.out.step k4)
           clear k4
           refine hK _ _ ?_
           clear hK K
           refine @BigFrame.wpList_want _ _ _ _ _ _ _ ?hw141107 ?_
           case hw141107 => kernel_rfl
           intro K hK
           go_simp
           refine hK _ _ ?_
           clear hK K
           refine @BigFrame.wpList_want _ _ _ _ _ _ _ ?hw141108 ?_
           case hw141108 => kernel_rfl
           intro K hK
           go_simp
           refine hK _ _ ?_
           clear hK K
           go_wp2
           go_roundw
           case rel => exact ⟨i + 1, by simp, Lib.hid HLT.out, fs, P, .slice Ta P.length Tc, sl2, Lib.hid (by have := HPI.out; omega), H32, Lib.hid ⟨by have := HFS.out.1; omega, HFS.out.2⟩, Lib.hid (by have := M4.out; rwa [show 99 * i + 99 = 99 * (i + 1) by omega] at this)⟩
           case measure => have := HLT.out; simp [RowKit.intOf]; omega
        ·as_aux_lemma =>
          have HPN2 := Lib.hid hP1000
          rw [decide_eq_false hmem] at hrg
          have HRG := Lib.hid hrg
          have hfac := fun w h => reffacts_calls l HLL.out n (by have := HNL.out; omega) (.slice Ta P.length Tc) P H32.out hP1000 p hp32 w h
          rw [← HTS.out] at hfac
          have HFAC := Lib.hid hfac
          obtain ⟨FL, hFL⟩ : ∃ FL, FL = Pp.upto n P p l (n + 1) := ⟨_, rfl⟩
          rw [← hFL] at HFAC
          have hsm : FL.length ≤ 9 ∧ ∀ g ∈ FL, g.1.length ≤ 2 ∧ g.2.length ≤ 2 := by
           rw [hFL]
           refine ⟨by have := Pp.upto_length n P p l (n + 1); have := HNL.out; omega, fun g hg => ?_⟩
           obtain ⟨h1, h2, h3, _⟩ := Pp.upto_small n P p l HLL.out (n + 1) g hg
           omega
          have HSM := Lib.hid hsm
          obtain ⟨NF, hNF⟩ : ∃ NF, NF = FL.foldl Bk.note fs := ⟨_, rfl⟩
          have hnt : Pp.noted n P l (p : Int) fs = NF := by rw [hNF, hFL]; exact Pp.noted_fresh n P l p fs hp hmem
          have ho : Pp.Out n P l (p : Int) (Pp.key (Pp.path p n l)) 0 (P ++ [p]) := .fresh p rfl hp hmem
          have hnf : NF.length ≤ 40 * (i + 1) ∧ ∀ g ∈ NF, g.1.length ≤ 2 ∧ g.2.length ≤ 2 := by
           rw [hNF]
           refine ⟨?_, fun g hg => ?_⟩
           ·have := Pm.fold_length FL fs
            have := hsm.1
            have := HFS.out.1
            omega
           ·rcases Pm.fold_mem g _ _ hg with h | h
            ·exact HFS.out.2 g h
            ·exact hsm.2 g h
          have HNF := Lib.hid hNF
          have HNFS := Lib.hid hnf
          have HLK := Lib.hid (fun (u : World) (v4 : Value) (h : Nl w u l n rb mb wa bb b2 (99 * i) NF fs P P (.slice Ta P.length Tc) v4 sl) => (by have h9 := Bx.play_look_book b2 bb (99 * i) fs _ n (by have := HNL.out; omega) P hP1000 l HLL.out rb (p : Int) ho sl u h.row h.bk h.base h.xlt HMK.out h.typ; rw [hnt] at h9; exact h9 : Calls Try.prog 28 #[.pointer (some ⟨rb, 0, none⟩), .pointer (some ⟨bb, 0, none⟩), .int .i64 (p : Int)] u fun e w' => e = .returned (.tuple #[.agg (bcells (Pp.key (Pp.path p n l))).toArray, .int .i64 0]) ∧ Bx.InBk w' b2 bb NF (99 * i + 99) (fun k => (Value.slice Ta P.length Tc).ownBlock = some k) ∧ Bx.BkFr b2 (fun k => (Value.slice Ta P.length Tc).ownBlock = some k) u w'))
          have HTK := Lib.hid (fun (u : World) (v4 : Value) (h : Nl w u l n rb mb wa bb b2 (99 * i) NF fs P P (.slice Ta P.length Tc) v4 sl) => (by have h9 := Bx.play_take_book b2 bb (99 * i) fs _ n (by have := HNL.out; omega) P hP1000 l HLL.out rb (p : Int) ho sl u h.row h.bk h.base h.xlt HMK.out h.typ h.lor; rw [hnt] at h9; exact h9 : Calls Try.prog 29 #[.pointer (some ⟨rb, 0, none⟩), .pointer (some ⟨bb, 0, none⟩), .int .i64 (p : Int)] u fun e w' => e = .returned (.tuple #[.agg (bcells (Pp.key (Pp.path p n l))).toArray, .int .i64 0]) ∧ ∃ sl', RowIs w' rb n sl' (Pp.low n (P ++ [p]) n ⟨0, 0, l⟩) ∧ Bx.InBk w' b2 bb NF (99 * i + 99) (fun k => (Value.slice Ta P.length Tc).ownBlock = some k) ∧ Bx.BkBut b2 (fun k => (Value.slice Ta P.length Tc).ownBlock = some k) rb u w' ∧ NearT u w' sl sl'))
          have H32b := Lib.hid (show ∀ t ∈ P ++ [p], t < 4294967296 from fun t ht => by
           rcases List.mem_append.1 ht with h | h
           ·exact H32.out t h
           ·rw [List.mem_singleton.1 h]; exact hp32)
          have HPI32 := Lib.hid hp32
          clear hrg hfac ho hnt hNF hnf hsm hP1000 hFL hp hp32 hmem
          go_upto_region 12 with fail
          refine wp_region_lit ?_
          refine @wpList_load_known _ _ _ _ _ _ _ ?hw141111 60 (.tmp 13) rfl (mb) (0) rfl (.agg TS) (run_loadVar_row _ mb 60 60 TS (0, 0) _ ((HM.out _ HN.out)) Try.underlying60 rfl (HMI.out)) ?_
          case hw141111 => kernel_rfl
          simp only [Act.put, List.setIfInBounds_toArray, List.set_cons_zero, List.set_cons_succ]
          refine @BigFrame.wpList_want _ _ _ _ _ _ _ ?hw141112 ?_
          case hw141112 => kernel_rfl
          intro K hK
          go_simp
          refine hK _ _ ?_
          clear hK K
          refine @BigFrame.wpList_want _ _ _ _ _ _ _ ?hw141109 ?_
          case hw141109 => kernel_rfl
          intro K hK
          go_simp
          go_at_call 25
          refine (HWI.out _).mono ?_
          rintro e x2 ⟨rfl, k2⟩
          have N2 := Lib.hid (HN.out.step k2)
          clear k2
          refine hK _ _ ?_
          clear hK K
          refine @BigFrame.wpList_want _ _ _ _ _ _ _ ?hw141113 ?_
          case hw141113 => kernel_rfl
          intro K hK
          go_simp
          refine hK _ _ ?_
          clear hK K
          refine @wpList_load_known _ _ _ _ _ _ _ ?hw141114 60 (.tmp 13) rfl (mb) (0) rfl (.agg TS) (run_loadVar_row _ mb 60 60 TS (0, 0) _ ((HM.out _ N2.out)) Try.underlying60 rfl (HMI.out)) ?_
          case hw141114 => kernel_rfl
          simp only [Act.put, List.setIfInBounds_toArray, List.set_cons_zero, List.set_cons_succ]
          refine @BigFrame.wpList_want _ _ _ _ _ _ _ ?hw141115 ?_
          case hw141115 => kernel_rfl
          intro K hK
          go_simp
          refine hK _ _ ?_
          clear hK K
          refine @BigFrame.wpList_want _ _ _ _ _ _ _ ?hw141110 ?_
          case hw141110 => kernel_rfl
          intro K hK
          go_simp
          go_at_call 26
          refine (HRG.out _ N2.out.own.gones).mono ?_
          rintro e y2 ⟨rfl, k2⟩
          have M2 := Lib.hid (N2.out.step k2)
          clear k2
          refine hK _ _ ?_
          clear hK K
          refine @BigFrame.wpList_want _ _ _ _ _ _ _ ?hw141116 ?_
          case hw141116 => kernel_rfl
          intro K hK
          go_simp
          refine hK _ _ ?_
          clear hK K
          refine @BigFrame.wpList_want _ _ _ _ _ _ _ ?hw141117 ?_
          case hw141117 => kernel_rfl
          intro K hK
          go_simp
          refine hK _ _ ?_
          clear hK K
          go_upto_region 13 with fail
          refine wp_region_lit ?_
          refine @wpList_load_known _ _ _ _ _ _ _ ?hw141119 60 (.tmp 13) rfl (mb) (0) rfl (.agg TS) (run_loadVar_row _ mb 60 60 TS (0, 0) _ ((HM.out _ M2.out)) Try.underlying60 rfl (HMI.out)) ?_
          case hw141119 => kernel_rfl
          simp only [Act.put, List.setIfInBounds_toArray, List.set_cons_zero, List.set_cons_succ]
          refine @BigFrame.wpList_want _ _ _ _ _ _ _ ?hw141120 ?_
          case hw141120 => kernel_rfl
          intro K hK
          go_simp
          refine hK _ _ ?_
          clear hK K
          refine @BigFrame.wpList_want _ _ _ _ _ _ _ ?hw141118 ?_
          case hw141118 => kernel_rfl
          intro K hK
          go_simp
          go_at_call 27
          refine (HFAC.out _ M2.out.own.gones).mono ?_
          rintro e x3 ⟨v17, rfl, o17, k3⟩
          have N3 := Lib.hid (M2.out.step k3)
          have A3 := Lib.hid (fun (q : Nat) (hq : v17.ownBlock = some q) => (show u14.ownBlock ≠ some q from fun e => by have h1 := (o17.typ hq).1; have h2 := (M2.out.fown.typ e).2.1; omega))
          obtain ⟨fad2, fc2, rfl⟩ := o17.shape
          obtain ⟨fl, hfl⟩ : ∃ t, t = FL.length := ⟨_, rfl⟩
          have HFLN := Lib.hid hfl
          have O3 := Lib.hid (o17.low (Nat.zero_le _))
          rw [← hfl] at O3 A3 ⊢
          have hfl9 : fl ≤ 9 := by rw [hfl]; exact HSM.out.1
          clear k3 o17 hfl
          refine hK _ _ ?_
          clear hK K
          refine @BigFrame.wpList_want _ _ _ _ _ _ _ ?hw141121 ?_
          case hw141121 => kernel_rfl
          intro K hK
          go_simp
          refine hK _ _ ?_
          clear hK K
          go_upto_region 14 with fail
          refine wp_region_lit ?_
          refine @BigFrame.wpList_want _ _ _ _ _ _ _ ?hw141122 ?_
          case hw141122 => kernel_rfl
          intro K hK
          go_simp
          refine hK _ _ ?_
          clear hK K
          go_wp2_with fail
          go_loopw [14, 18] (fun s14 s18 wx => ∃ k : Nat, s18 = .int .i64 (k : Int) ∧ Hid (k ≤ fl) ∧ Hid (Nl w wx l n rb mb wa bb b2 (99 * i) ((FL.take k).foldl Bk.note fs) fs P P (.slice Ta P.length Tc) s14 sl) ∧ Hid (OwnF wx 0 (.slice fad2 fl fc2) FL) ∧ Hid (∀ q, (Value.slice fad2 fl fc2).ownBlock = some q → s14.ownBlock ≠ some q)) (fun _ s18 _ => fl - (RowKit.intOf s18).toNat)
          case atStart => exact ⟨0, rfl, Lib.hid (Nat.zero_le _), Lib.hid (by simpa using N3.out), O3, A3⟩
          case round =>
           clear N3 O3 A3
           obtain ⟨k, rfl, hk, NK, OK, AK⟩ := hrel
           by_cases hlt : k < fl
           ·as_aux_lemma =>
             have hltk : (k : Int) < (fl : Int) := by omega
             have hk0 : ¬ (k : Int) < 0 := by omega
             have hkF : k < FL.length := by rw [← HFLN.out]; exact hlt
             obtain ⟨fg2, fa, fb, had, hfg, hfr, ha, hb⟩ := OK.out.at k hkF
             subst had
             have hft := fold_take FL fs k hkF
             have hfz := HSM.out.2 FL[k] (List.getElem_mem hkF)
             obtain ⟨fx, hfx⟩ : ∃ t, t = FL[k] := ⟨_, rfl⟩
             rw [← hfx] at ha hb hft hfz
             obtain ⟨Gk, hGk⟩ : ∃ t, t = (FL.take k).foldl Bk.note fs := ⟨_, rfl⟩
             rw [← hGk] at hft
             have hgl : Gk.length ≤ 2000 ∧ ∀ f ∈ Gk, f.1.length ≤ 2 ∧ f.2.length ≤ 2 := by
              rw [hGk]
              refine ⟨?_, fun f hf => ?_⟩
              ·have h1 := Pm.fold_length (FL.take k) fs
               have h2 : (FL.take k).length ≤ k := List.length_take_le _ _
               have h3 := HFS.out.1
               have h4 := HSM.out.1
               have h5 := HLT.out
               have h6 := HL24.out
               omega
              ·rcases Pm.fold_mem f _ _ hf with h | h
               ·exact HFS.out.2 f h
               ·exact HSM.out.2 f (List.mem_of_mem_take h)
             have NK2 : Hid (Nl w wr l n rb mb wa bb b2 (99 * i) Gk fs P P (.slice Ta P.length Tc) u14 sl) := Lib.hid (by rw [hGk]; exact NK.out)
             have HNT := Lib.hid (refnote_callsG Gk fx u14 fa fb wr (mb + 1) NK2.out.fown NK2.out.mlt ha hb (by omega) (fun g hg => by have := hgl.2 g hg; omega) (by omega) (by omega))
             have HRR := Lib.hid hfr
             have HFT := Lib.hid hft
             have HLTK := Lib.hid hlt
             have HFI := Lib.hid (show (Try.prog.info? 35).map (·.size) = some [fa, fb].length by kernel_rfl)
             clear ha hb hft hfz hfx hGk hgl hfr hfg NK hlt hk hkF
             go_upto_region 15 with fail
             refine wp_region_lit ?_
             refine @BigFrame.wpList_want _ _ _ _ _ _ _ ?hw141123 ?_
             case hw141123 => kernel_rfl
             intro K hK
             go_simp
             refine hK _ _ ?_
             clear hK K
             refine @BigFrame.wpList_want _ _ _ _ _ _ _ ?hw141124 ?_
             case hw141124 => kernel_rfl
             intro K hK
             go_simp
             refine hK _ _ ?_
             clear hK K
             refine @BigFrame.wpList_want _ _ _ _ _ _ _ ?hw141125 ?_
             case hw141125 => kernel_rfl
             intro K hK
             go_simp
             refine hK _ _ ?_
             clear hK K
             refine @BigFrame.wpList_want _ _ _ _ _ _ _ ?hw141126 ?_
             case hw141126 => kernel_rfl
             intro K hK
             go_simp
             refine hK _ _ ?_
             clear hK K
             go_upto_region 17 with fail
             refine wp_region_lit ?_
             refine @BigFrame.wpList_want _ _ _ _ _ _ _ ?hw141128 ?_
             case hw141128 => kernel_rfl
             intro K hK
             go_simp
             refine hK _ _ ?_
             clear hK K
             refine @BigFrame.wpList_want _ _ _ _ _ _ _ ?hw141129 ?_
             case hw141129 => kernel_rfl
             intro K hK
             go_simp
             refine hK _ _ ?_
             clear hK K
             refine @BigFrame.wpList_want _ _ _ _ _ _ _ ?hw141130 ?_
             case hw141130 => kernel_rfl
             intro K hK
             go_simp
             refine hK _ _ ?_
             clear hK K
             refine @BigFrame.wpList_want _ _ _ _ _ _ _ ?hw141131 ?_
             case hw141131 => kernel_rfl
             intro K hK
             go_simp
             refine hK _ _ ?_
             clear hK K
             refine wpList_load_mid rfl 35 (.tmp 84) rfl fg2 (k * 2) rfl [fa, fb] _ HRR.out Try.underlying35 rfl HFI.out ?_
             simp only [Act.put, List.setIfInBounds_toArray, List.set_cons_zero, List.set_cons_succ]
             refine @BigFrame.wpList_want _ _ _ _ _ _ _ ?hw141127 ?_
             case hw141127 => kernel_rfl
             intro K hK
             go_simp
             go_at_call 18
             refine (HNT.out).mono ?_
             rintro e w38 ⟨v38, rfl, o38, k38, g38⟩
             have N38 := Lib.hid (NK2.out.note o38 k38 g38)
             have O38 := Lib.hid (OK.out.stay2 (w' := w38) (fun q hq => g38.1 q (OK.out.typ hq).2.1 (AK.out q hq)) (fun q cs fr hh => (g38.stayG NK2.out.fown).cells hh (by decide)))
             have A38 : Hid (∀ q, (Value.slice (some ⟨fg2, 0, none⟩) fl fc2).ownBlock = some q → v38.ownBlock ≠ some q) := Lib.hid (fun q hq e => (g38.2 q e).elim (fun h => AK.out q hq h) (fun h => by have := (OK.out.typ hq).2.1; omega))
             clear o38 k38 g38 HNT HRR OK AK NK2
             refine hK _ _ ?_
             clear hK K
             refine @BigFrame.wpList_want _ _ _ _ _ _ _ ?hw141132 ?_
             case hw141132 => kernel_rfl
             intro K hK
             go_simp
             refine hK _ _ ?_
             clear hK K
             refine @BigFrame.wpList_want _ _ _ _ _ _ _ ?hw141133 ?_
             case hw141133 => kernel_rfl
             intro K hK
             go_simp
             refine hK _ _ ?_
             clear hK K
             refine @BigFrame.wpList_want _ _ _ _ _ _ _ ?hw141134 ?_
             case hw141134 => kernel_rfl
             intro K hK
             go_simp
             refine hK _ _ ?_
             clear hK K
             refine @BigFrame.wpList_want _ _ _ _ _ _ _ ?hw141135 ?_
             case hw141135 => kernel_rfl
             intro K hK
             go_simp
             refine hK _ _ ?_
             clear hK K
             have hk9 := HLTK.out
             go_wp2
             go_roundw
             case rel => exact ⟨k + 1, by simp, Lib.hid HLTK.out, Lib.hid (by rw [HFT.out]; exact N38.out), O38, A38⟩
             case measure => have := HLTK.out; simp [RowKit.intOf]; omega
           ·have hnl : ¬ (k : Int) < (fl : Int) := by omega
            have N5 : Hid (Nl w wr l n rb mb wa bb b2 (99 * i) NF fs P P (.slice Ta P.length Tc) u14 sl) := Lib.hid (by
             have h := NK.out
             rwa [List.take_of_length_le (by rw [← HFLN.out]; omega), ← HNF.out] at h)
            clear hlt hk NK OK AK
            as_aux_lemma =>
             have hdo : wr.cell? ⟨cg, co + i * 2, none⟩ = some (.int .u8 dd) := HDO.out _ N5.out.kept
             by_cases hev : dd.tmod 2 = 0
             ·have hbe : (dd.tmod 2 == 0) = true := by rw [beq_iff_eq]; exact hev
              clear hev
              go_upto_region 18 with fail
              refine wp_region_lit ?_
              refine @BigFrame.wpList_want _ _ _ _ _ _ _ ?hw141136 ?_
              case hw141136 => kernel_rfl
              intro K hK
              go_simp
              refine hK _ _ ?_
              clear hK K
              refine @BigFrame.wpList_want _ _ _ _ _ _ _ ?hw141137 ?_
              case hw141137 => kernel_rfl
              intro K hK
              go_simp
              refine hK _ _ ?_
              clear hK K
              refine @BigFrame.wpList_want _ _ _ _ _ _ _ ?hw141138 ?_
              case hw141138 => kernel_rfl
              intro K hK
              go_simp
              refine hK _ _ ?_
              clear hK K
              refine @BigFrame.wpList_want _ _ _ _ _ _ _ ?hw141139 ?_
              case hw141139 => kernel_rfl
              intro K hK
              go_simp
              refine hK _ _ ?_
              clear hK K
              refine @BigFrame.wpList_want _ _ _ _ _ _ _ ?hw141140 ?_
              case hw141140 => kernel_rfl
              intro K hK
              go_simp
              refine hK _ _ ?_
              clear hK K
              refine @BigFrame.wpList_want _ _ _ _ _ _ _ ?hw141141 ?_
              case hw141141 => kernel_rfl
              intro K hK
              go_simp
              refine hK _ _ ?_
              clear hK K
              refine @BigFrame.wpList_want _ _ _ _ _ _ _ ?hw141142 ?_
              case hw141142 => kernel_rfl
              intro K hK
              go_simp
              refine hK _ _ ?_
              clear hK K
              clear hdo hbe
              go_upto_region 19 with fail
              refine wp_region_lit ?_
              refine @BigFrame.wpList_want _ _ _ _ _ _ _ ?hw141144 ?_
              case hw141144 => kernel_rfl
              intro K hK
              go_simp
              refine hK _ _ ?_
              clear hK K
              refine @BigFrame.wpList_want _ _ _ _ _ _ _ ?hw141145 ?_
              case hw141145 => kernel_rfl
              intro K hK
              go_simp
              refine hK _ _ ?_
              clear hK K
              refine @BigFrame.wpList_want _ _ _ _ _ _ _ ?hw141146 ?_
              case hw141146 => kernel_rfl
              intro K hK
              go_simp
              refine hK _ _ ?_
              clear hK K
              refine @BigFrame.wpList_want _ _ _ _ _ _ _ ?hw141143 ?_
              case hw141143 => kernel_rfl
              intro K hK
              go_simp
              go_at_call 28
              refine (HLK.out _ _ N5.out).mono ?_
              rintro e x3 ⟨rfl, q3, f3⟩
              have N6 := Lib.hid (N5.out.look q3 f3)
              clear q3 f3
              refine hK _ _ ?_
              clear hK K
              go_wp2
              go_roundw
              case rel => exact ⟨i + 1, by simp, Lib.hid HLT.out, NF, P, .slice Ta P.length Tc, sl, Lib.hid (by have := HPI.out; omega), H32, HNFS, Lib.hid (by have := N6.out; rwa [show 99 * i + 99 = 99 * (i + 1) by omega] at this)⟩
              case measure => have := HLT.out; simp [RowKit.intOf]; omega
             ·have hbe : (dd.tmod 2 == 0) = false := by rw [beq_eq_false_iff_ne]; exact hev
              clear hev
              go_upto_region 18 with fail
              refine wp_region_lit ?_
              refine @BigFrame.wpList_want _ _ _ _ _ _ _ ?hw141147 ?_
              case hw141147 => kernel_rfl
              intro K hK
              go_simp
              refine hK _ _ ?_
              clear hK K
              refine @BigFrame.wpList_want _ _ _ _ _ _ _ ?hw141148 ?_
              case hw141148 => kernel_rfl
              intro K hK
              go_simp
              refine hK _ _ ?_
              clear hK K
              refine @BigFrame.wpList_want _ _ _ _ _ _ _ ?hw141149 ?_
              case hw141149 => kernel_rfl
              intro K hK
              go_simp
              refine hK _ _ ?_
              clear hK K
              refine @BigFrame.wpList_want _ _ _ _ _ _ _ ?hw141150 ?_
              case hw141150 => kernel_rfl
              intro K hK
              go_simp
              refine hK _ _ ?_
              clear hK K
              refine @BigFrame.wpList_want _ _ _ _ _ _ _ ?hw141151 ?_
              case hw141151 => kernel_rfl
              intro K hK
              go_simp
              refine hK _ _ ?_
              clear hK K
              refine @BigFrame.wpList_want _ _ _ _ _ _ _ ?hw141152 ?_
              case hw141152 => kernel_rfl
              intro K hK
              go_simp
              refine hK _ _ ?_
              clear hK K
              refine @BigFrame.wpList_want _ _ _ _ _ _ _ ?hw141153 ?_
              case hw141153 => kernel_rfl
              intro K hK
              go_simp
              refine hK _ _ ?_
              clear hK K
              clear hdo hbe
              go_upto_region 20 with fail
              refine wp_region_lit ?_
              refine @BigFrame.wpList_want _ _ _ _ _ _ _ ?hw141155 ?_
              case hw141155 => kernel_rfl
              intro K hK
              go_simp
              refine hK _ _ ?_
              clear hK K
              refine @BigFrame.wpList_want _ _ _ _ _ _ _ ?hw141156 ?_
              case hw141156 => kernel_rfl
              intro K hK
              go_simp
              refine hK _ _ ?_
              clear hK K
              refine @BigFrame.wpList_want _ _ _ _ _ _ _ ?hw141157 ?_
              case hw141157 => kernel_rfl
              intro K hK
              go_simp
              refine hK _ _ ?_
              clear hK K
              refine @BigFrame.wpList_want _ _ _ _ _ _ _ ?hw141154 ?_
              case hw141154 => kernel_rfl
              intro K hK
              go_simp
              go_at_call 29
              refine (HTK.out _ _ N5.out).mono ?_
              rintro e x3 ⟨rfl, sl2, hr3, q3, f3, hn3⟩
              have N6 := Lib.hid (N5.out.take hr3 q3 f3 hn3)
              clear q3 f3 hr3 hn3
              refine hK _ _ ?_
              clear hK K
              have HM2 := Lib.hid (fun x (h : Nl w x l n rb mb wa bb b2 (99 * i + 99) NF NF (P ++ [p]) P (.slice Ta P.length Tc) u14 sl2) => show x.heap[mb]? = some (.cells TS 60 (0, 0)) by rw [HTS.out]; exact h.m)
              go_upto_region 21 with fail
              refine wp_region_lit ?_
              refine @wpList_load_known _ _ _ _ _ _ _ ?hw141160 60 (.tmp 13) rfl (mb) (0) rfl (.agg TS) (run_loadVar_row _ mb 60 60 TS (0, 0) _ ((HM2.out _ N6.out)) Try.underlying60 rfl (HMI.out)) ?_
              case hw141160 => kernel_rfl
              simp only [Act.put, List.setIfInBounds_toArray, List.set_cons_zero, List.set_cons_succ]
              refine @BigFrame.wpList_want _ _ _ _ _ _ _ ?hw141161 ?_
              case hw141161 => kernel_rfl
              intro K hK
              go_simp
              refine hK _ _ ?_
              clear hK K
              refine @BigFrame.wpList_want _ _ _ _ _ _ _ ?hw141158 ?_
              case hw141158 => kernel_rfl
              intro K hK
              go_simp
              go_at_call 25
              refine (HWI.out _).mono ?_
              rintro e x7 ⟨rfl, k7⟩
              have N7 := Lib.hid (N6.out.step k7)
              clear k7
              refine hK _ _ ?_
              clear hK K
              refine @BigFrame.wpList_want _ _ _ _ _ _ _ ?hw141162 ?_
              case hw141162 => kernel_rfl
              intro K hK
              go_simp
              refine hK _ _ ?_
              clear hK K
              refine @wpList_load_known _ _ _ _ _ _ _ ?hw141163 60 (.tmp 13) rfl (mb) (0) rfl (.agg TS) (run_loadVar_row _ mb 60 60 TS (0, 0) _ ((HM2.out _ N7.out)) Try.underlying60 rfl (HMI.out)) ?_
              case hw141163 => kernel_rfl
              simp only [Act.put, List.setIfInBounds_toArray, List.set_cons_zero, List.set_cons_succ]
              refine @BigFrame.wpList_want _ _ _ _ _ _ _ ?hw141164 ?_
              case hw141164 => kernel_rfl
              intro K hK
              go_simp
              refine hK _ _ ?_
              clear hK K
              refine @BigFrame.wpList_want _ _ _ _ _ _ _ ?hw141159 ?_
              case hw141159 => kernel_rfl
              intro K hK
              go_simp
              go_at_call 26
              refine (HRG.out _ N7.out.own.gones).mono ?_
              rintro e y7 ⟨rfl, k7⟩
              have M7 := Lib.hid (N7.out.step k7)
              clear k7
              refine hK _ _ ?_
              clear hK K
              refine @BigFrame.wpList_want _ _ _ _ _ _ _ ?hw141165 ?_
              case hw141165 => kernel_rfl
              intro K hK
              go_simp
              refine hK _ _ ?_
              clear hK K
              refine @BigFrame.wpList_want _ _ _ _ _ _ _ ?hw141166 ?_
              case hw141166 => kernel_rfl
              intro K hK
              go_simp
              refine hK _ _ ?_
              clear hK K
              have hm7 := M7.out.m
              rw [refRow] at hm7
              have kk7 : Kept y7.heap.size y7.heap.size y7 (y7.alloc (.cells #[.int .i64 (p : Int)] 3)) := (Kept.refl _ _ _).alloc (Nat.le_refl _) _
              have PL7 := Lib.hid (M7.out.step kk7)
              have c33 : y7.cell? ⟨mb, 33, none⟩ = some (.slice Ta P.length Tc) := by
               rw [cells_at hm7 33 (by simp [bcells_length, HLL.out])]
               simp [List.getElem_append_right, bcells_length, HLL.out]
              obtain ⟨T', x8, happ, hown, hgr, hnb⟩ := append_int (y7.alloc (.cells #[.int .i64 (p : Int)] 3)) (mb + 1) (.slice Ta P.length Tc) P PL7.out.own (lt_of_block PL7.out.m) y7.heap.size 1 p (World.cell?_alloc_new y7 _ _ 0) (by have := HPI.out; have := HLT.out; have := HL24.out; omega)
              have hm8 := (hgr.block mb (lt_of_block PL7.out.m) (fun e => by have := (PL7.out.own.lt mb e.symm).1; omega)).trans PL7.out.m
              rw [refRow] at hm8
              have HC8 := Lib.hid (show x8.cell? ⟨mb, 33, none⟩ = some (.slice Ta P.length Tc) by
               rw [cells_at hm8 33 (by simp [bcells_length, HLL.out])]
               simp [List.getElem_append_right, bcells_length, HLL.out])
              have HF8 := Lib.hid (cells_free hm8 33)
              have PL8 := Lib.hid (PL7.out.more HLL.out hown hgr hnb)
              have HAPP := Lib.hid happ
              obtain ⟨Ta', Tg', Tc', hT', hT2⟩ := hown.shape
              have hT3 : T' = .slice (some ⟨Tg', 0, none⟩) (P.length + 1) Tc' := by rw [hT', (hT2 (by simp)).1, List.length_append]; rfl
              clear hT' hT2 hown hgr hnb hm7 kk7 hm8 happ
              subst hT3
              go_upto_region 22 with fail
              refine wp_region_lit ?_
              refine @BigFrame.wpList_want _ _ _ _ _ _ _ ?hw141167 ?_
              case hw141167 => kernel_rfl
              intro K hK
              go_simp
              refine hK _ _ ?_
              clear hK K
              refine @BigFrame.wpList_want _ _ _ _ _ _ _ ?hw141168 ?_
              case hw141168 => kernel_rfl
              intro K hK
              go_simp
              refine hK _ _ ?_
              clear hK K
              refine @BigFrame.wpList_want _ _ _ _ _ _ _ ?hw141169 ?_
              case hw141169 => kernel_rfl
              intro K hK
              go_simp
              refine hK _ _ ?_
              clear hK K
              refine @BigFrame.wpList_want _ _ _ _ _ _ _ ?hw141170 ?_
              case hw141170 => kernel_rfl
              intro K hK
              go_simp
              refine hK _ _ ?_
              clear hK K
              clear c33
              refine wpList_append_known rfl _ _ 58 58 58 rfl rfl (.slice Ta P.length Tc) (.slice (some ⟨y7.heap.size, 0, none⟩) 1 1) rfl rfl HAPP.out ?_
              simp only [Act.put, List.setIfInBounds_toArray, List.set_cons_zero, List.set_cons_succ]
              have c33 := HC8.out
              have f33 := HF8.out
              refine @BigFrame.wpList_want _ _ _ _ _ _ _ ?hw141171 ?_
              case hw141171 => kernel_rfl
              intro K hK
              go_simp
              refine hK _ _ ?_
              clear hK K
              refine @BigFrame.wpList_want _ _ _ _ _ _ _ ?hw141172 ?_
              case hw141172 => kernel_rfl
              intro K hK
              go_simp
              refine hK _ _ ?_
              clear hK K
              clear c33 f33
              refine wpList_nil ?_
              generalize x8.setCell ⟨mb, 33, none⟩ (.slice (some ⟨Tg', 0, none⟩) (P.length + 1) Tc') = x9 at PL8 ⊢
              go_wp2
              go_roundw
              case rel => exact ⟨i + 1, by simp, Lib.hid HLT.out, NF, P ++ [p], .slice (some ⟨Tg', 0, none⟩) (P.length + 1) Tc', sl2, Lib.hid (by have := HPI.out; simp; omega), H32b, HNFS, Lib.hid (by have := PL8.out; rwa [show 99 * i + 99 = 99 * (i + 1) by omega] at this)⟩
              case measure => have := HLT.out; simp [RowKit.intOf]; omega
     ·have hnl : ¬ (i : Int) < (ln : Int) := by omega
      as_aux_lemma =>
       have HB5 := Lib.hid HN.out.bk.book
       have HO5 := Lib.hid HN.out.fown
       have HSD := Lib.hid (show wr.heap[wa]? = some (.cells LD 26 (0, 0)) by rw [HLD.out]; exact HN.out.seed)
       have HK5 := Lib.hid HN.out.kept
       have HF5 := Lib.hid (HF.out.kept HN.out.kept)
       have HIL := Lib.hid (show i = ln by have := hi.out; omega)
       clear hlt hi HN HPI H32 HF HP0
       generalize wr = w5 at HB5 HO5 HSD HK5 HF5 ⊢
       obtain ⟨i0, z0, hi0, hz0, hzs0, hs0, hb0⟩ := book_info
       have HI0 := Lib.hid hi0
       have HZ0 := Lib.hid hz0
       have HS0 := Lib.hid hs0
       obtain ⟨iH, zH, hiH, hzH, hzsH, hsH, hbH⟩ := hash_info
       have HIH := Lib.hid hiH
       have HZH := Lib.hid hzH
       have HSH := Lib.hid hsH
       clear hiH hzH hzsH hsH hbH
       clear hi0 hz0 hzs0 hs0 hb0
       go_upto_region 23 with fail
       refine wp_region_lit ?_
       refine @wpList_load_known _ _ _ _ _ _ _ ?hw141173 26 (.tmp 4) rfl (wa) (0) rfl (.agg LD) (run_loadVar_row _ wa 26 26 LD (0, 0) _ (HSD.out) Try.underlying26 rfl (HLI.out)) ?_
       case hw141173 => kernel_rfl
       simp only [Act.put, List.setIfInBounds_toArray, List.set_cons_zero, List.set_cons_succ]
       refine wpList_build_one rfl _ 33 25 rfl i0 z0 Try.underlying33 HI0.out HZ0.out LD rfl (by rw [HS0.out]; exact HLS.out) (by rw [HS0.out]; decide) (by rw [HS0.out]; decide) ?_
       simp only [Act.put, List.setIfInBounds_toArray, List.set_cons_zero, List.set_cons_succ]
       have kz : Kept w5.heap.size w5.heap.size w5 (w5.alloc (.cells LD 25)) := (Kept.refl _ _ _).alloc (Nat.le_refl _) _
       have KZ := Lib.hid kz
       have OA : Hid (Own (w5.alloc (.cells LD 25)) w5.heap.size (.slice (some ⟨w5.heap.size, 0, none⟩) 1 1) [l]) := Lib.hid (own_oneB (Nat.le_refl _) HLL.out (by rw [← HLD.out]; exact heap_new _ _))
       clear kz
       generalize w5.alloc (.cells LD 25) = w6 at KZ OA ⊢
       refine @BigFrame.wpList_want _ _ _ _ _ _ _ ?hw141174 ?_
       case hw141174 => kernel_rfl
       intro K hK
       go_simp
       refine hK _ _ ?_
       clear hK K
       go_wp2_with fail
       go_loopw [19, 20] (fun s19 s20 x => ∃ k : Nat, s20 = .int .i64 (k : Int) ∧ Hid (k ≤ fn) ∧ Hid (Kept w5.heap.size w5.heap.size w5 x) ∧ Hid (Own x w5.heap.size s19 (l :: F.take k))) (fun _ s20 _ => fn - (RowKit.intOf s20).toNat)
       case atStart => exact ⟨0, rfl, Lib.hid (Nat.zero_le _), KZ, Lib.hid (by simpa using OA.out)⟩
       case round =>
        clear KZ OA
        obtain ⟨k, rfl, hk, KK, OK⟩ := hrel
        by_cases hlt : k < fn
        ·as_aux_lemma =>
          have hltk : (k : Int) < (fn : Int) := by omega
          have hk0 : ¬ (k : Int) < 0 := by omega
          have hkF : k < F.length := by rw [← HFN.out]; exact hlt
          have hF9 := HF5.out.kept KK.out
          obtain ⟨h32, zad, zg, zo, zc, hze, hzc⟩ := hF9
          injection hze with e1 e2 e3
          clear e2
          subst e1
          subst e3
          obtain ⟨had, hzg, hzr⟩ := hzc k hkF
          subst had
          have htk := List.take_succ_eq_append_getElem hkF
          have hx32 := h32 F[k] (List.getElem_mem hkF)
          obtain ⟨x, hx⟩ : ∃ x, x = F[k] := ⟨_, rfl⟩
          rw [← hx] at hzr htk hx32
          have HTK := Lib.hid htk
          have HLTK := Lib.hid hlt
          obtain ⟨XL, hXL⟩ : ∃ t, t = bcells x := ⟨_, rfl⟩
          have HRR := Lib.hid (show wr.rangeAt zg (zo + k * 32) XL by rw [hXL]; exact hzr)
          have HXI := Lib.hid (show (Try.prog.info? 26).map (·.size) = some XL.length by have := keyInfo hx32; rw [← hXL] at this; simpa using this)
          have HXS := Lib.hid (show XL.toArray.size = 32 by rw [hXL, List.size_toArray, bcells_length, hx32])
          have kz : Kept wr.heap.size wr.heap.size wr (wr.alloc (.cells XL.toArray 25)) := (Kept.refl _ _ _).alloc (Nat.le_refl _) _
          obtain ⟨v9, u9, hr9, ho9, hg9⟩ := append_digest (wr.alloc (.cells XL.toArray 25)) w5.heap.size u19 (l :: F.take k) (OK.out.kept kz (Nat.le_refl _)) (Nat.le_trans KK.out.size kz.size) wr.heap.size 1 x hx32 (by rw [← hXL]; exact row_range (heap_new wr (.cells XL.toArray 25))) (by have h1 := HF24.out; have h2 : (F.take k).length ≤ k := List.length_take_le _ _; simp only [List.length_cons]; omega)
          have K9 : Hid (Kept w5.heap.size w5.heap.size w5 u9) := Lib.hid ((KK.out.next1 kz).trans ⟨hg9.os, hg9.tape, hg9.output, hg9.size, fun q hq _ => hg9.block q (Nat.lt_of_lt_of_le hq (Nat.le_trans KK.out.size kz.size)) (fun e => by have := ((OK.out.kept kz (Nat.le_refl _)).low q e.symm).1; omega)⟩)
          have O9 := Lib.hid ho9
          have R9 := Lib.hid hr9
          obtain ⟨zzad, zzc, hsh⟩ := OK.out.shape (n := k + 1) (by simp only [List.length_cons, List.length_take]; omega)
          subst hsh
          clear hlt hk OK hzr htk hx hx32 hXL kz hr9 ho9 hg9 hzc hzg h32 hkF
          go_upto_region 25 with fail
          refine wp_region_lit ?_
          refine @BigFrame.wpList_want _ _ _ _ _ _ _ ?hw141175 ?_
          case hw141175 => kernel_rfl
          intro K hK
          go_simp
          refine hK _ _ ?_
          clear hK K
          refine @BigFrame.wpList_want _ _ _ _ _ _ _ ?hw141176 ?_
          case hw141176 => kernel_rfl
          intro K hK
          go_simp
          refine hK _ _ ?_
          clear hK K
          refine @BigFrame.wpList_want _ _ _ _ _ _ _ ?hw141177 ?_
          case hw141177 => kernel_rfl
          intro K hK
          go_simp
          refine hK _ _ ?_
          clear hK K
          refine @BigFrame.wpList_want _ _ _ _ _ _ _ ?hw141178 ?_
          case hw141178 => kernel_rfl
          intro K hK
          go_simp
          refine hK _ _ ?_
          clear hK K
          go_upto_region 27 with fail
          refine wp_region_lit ?_
          refine @BigFrame.wpList_want _ _ _ _ _ _ _ ?hw141179 ?_
          case hw141179 => kernel_rfl
          intro K hK
          go_simp
          refine hK _ _ ?_
          clear hK K
          refine @BigFrame.wpList_want _ _ _ _ _ _ _ ?hw141180 ?_
          case hw141180 => kernel_rfl
          intro K hK
          go_simp
          refine hK _ _ ?_
          clear hK K
          refine @BigFrame.wpList_want _ _ _ _ _ _ _ ?hw141181 ?_
          case hw141181 => kernel_rfl
          intro K hK
          go_simp
          refine hK _ _ ?_
          clear hK K
          refine @BigFrame.wpList_want _ _ _ _ _ _ _ ?hw141182 ?_
          case hw141182 => kernel_rfl
          intro K hK
          go_simp
          refine hK _ _ ?_
          clear hK K
          refine wpList_load_mid rfl 26 (.tmp 130) rfl zg (zo + k * 32) rfl XL _ HRR.out Try.underlying26 rfl HXI.out ?_
          simp only [Act.put, List.setIfInBounds_toArray, List.set_cons_zero, List.set_cons_succ]
          refine wpList_build_one rfl _ 33 25 rfl i0 z0 Try.underlying33 HI0.out HZ0.out XL.toArray rfl (by rw [HS0.out]; exact HXS.out) (by rw [HS0.out]; decide) (by rw [HS0.out]; decide) ?_
          simp only [Act.put, List.setIfInBounds_toArray, List.set_cons_zero, List.set_cons_succ]
          refine wpList_append_known rfl _ _ 33 33 33 rfl rfl (.slice zzad (k + 1) zzc) (.slice (some ⟨wr.heap.size, 0, none⟩) 1 1) rfl rfl R9.out ?_
          simp only [Act.put, List.setIfInBounds_toArray, List.set_cons_zero, List.set_cons_succ]
          refine @BigFrame.wpList_want _ _ _ _ _ _ _ ?hw141183 ?_
          case hw141183 => kernel_rfl
          intro K hK
          go_simp
          refine hK _ _ ?_
          clear hK K
          have hk9 := HLTK.out
          go_wp2
          go_roundw
          case rel => exact ⟨k + 1, by simp, Lib.hid HLTK.out, K9, Lib.hid (by rw [HTK.out]; exact O9.out)⟩
          case measure => have := HLTK.out; simp [RowKit.intOf]; omega
        ·have hnl : ¬ (k : Int) < (fn : Int) := by omega
         have OA : Hid (Own wr w5.heap.size u19 (l :: F)) := Lib.hid (by
          have h := OK.out
          rwa [List.take_of_length_le (by rw [← HFN.out]; omega)] at h)
         clear hlt hk OK
         as_aux_lemma =>
          have HIL' := HIL
          have hfl := HFS.out
          have hi24 : i ≤ 24 := by have := HL24.out; have := HIL'.out; omega
          have hsm : ∀ f ∈ fs, f.1.length < 1000000 ∧ f.2.length < 1000000 := fun f hf => by have := hfl.2 f hf; omega
          have houts := outs_le 2 fs (fun f hf => (hfl.2 f hf).2)
          have hF24 := HF24.out
          have HSD6 := Lib.hid ((KK.out.block wa (lt_of_block HSD.out) (Nat.ne_of_lt (lt_of_block HSD.out))).trans HSD.out)
          have kz : Kept wr.heap.size wr.heap.size wr (wr.alloc (.cells LD 26)) := (Kept.refl _ _ _).alloc (Nat.le_refl _) _
          obtain ⟨v9, u9, hr9, ho9, hg9⟩ := append_any (wr.alloc (.cells LD 26)) wr.heap.size (.slice (some ⟨wr.heap.size, 0, none⟩) 1 1) [l] (own_h1 (Nat.le_refl _) HLL.out (by rw [← HLD.out]; exact heap_new _ _)) kz.size (.slice fad fn fc) F (HF5.out.kept (KK.out.next1 kz)) HFW.out (by rw [← HFN.out]; simp only [List.length_singleton]; omega)
          obtain ⟨q1, vad, vg, vo, vc, rfl, q2⟩ := id ho9.hs
          clear q1 q2
          obtain ⟨m9, hm9⟩ : ∃ m, m = ([l] ++ F).length := ⟨_, rfl⟩
          have ho9h := ho9.hs
          rw [← hm9] at hr9 ho9h
          have HM9L := Lib.hid hm9
          clear hm9
          have k9 : Kept w5.heap.size w5.heap.size w5 u9 := (KK.out.next1 kz).trans ⟨hg9.os, hg9.tape, hg9.output, hg9.size, fun q hq _ => hg9.block q (Nat.lt_of_lt_of_le hq (Nat.le_trans KK.out.size kz.size)) (fun e => by have e2 : q = wr.heap.size := Option.some.inj e; have := KK.out.size; omega)⟩
          have k9r : Kept wr.heap.size wr.heap.size wr u9 := kz.trans ⟨hg9.os, hg9.tape, hg9.output, hg9.size, fun q hq _ => hg9.block q (Nat.lt_of_lt_of_le hq kz.size) (fun e => by have e2 : q = wr.heap.size := Option.some.inj e; omega)⟩
          have HFO := Lib.hid (show Calls Try.prog 21 #[.pointer (some ⟨bb, 0, none⟩), .slice vad m9 vc] u9 fun e w' => ∃ r M, e = .returned r ∧ Hs w' r M ∧ Bk.Is fs (l :: F) M ∧ Kept u9.heap.size u9.heap.size u9 w' from by
           obtain ⟨n', hn', S, h3⟩ := HB5.out.kept k9
           exact follows_book b2 bb n' fs _ S (l :: F) _ u9 h3 (by rw [HM9L.out] at ho9h ⊢; exact ho9h) (by rw [List.length_cons, ← HFN.out]; omega) (by omega) (by omega) hsm)
          have R9 := Lib.hid hr9
          have K9 := Lib.hid k9
          have K9R := Lib.hid k9r
          clear kz hr9 ho9 hg9 k9 k9r hfl hi24
          go_upto_region 28 with fail
          refine wp_region_lit ?_
          refine @BigFrame.wpList_want _ _ _ _ _ _ _ ?hw141185 ?_
          case hw141185 => kernel_rfl
          intro K hK
          go_simp
          refine hK _ _ ?_
          clear hK K
          refine @wpList_load_known _ _ _ _ _ _ _ ?hw141186 26 (.tmp 4) rfl (wa) (0) rfl (.agg LD) (run_loadVar_row _ wa 26 26 LD (0, 0) _ (HSD6.out) Try.underlying26 rfl (HLI.out)) ?_
          case hw141186 => kernel_rfl
          simp only [Act.put, List.setIfInBounds_toArray, List.set_cons_zero, List.set_cons_succ]
          refine wpList_build_one rfl _ 23 26 rfl iH zH Try.underlying23 HIH.out HZH.out LD rfl (by rw [HSH.out]; exact HLS.out) (by rw [HSH.out]; decide) (by rw [HSH.out]; decide) ?_
          simp only [Act.put, List.setIfInBounds_toArray, List.set_cons_zero, List.set_cons_succ]
          refine @BigFrame.wpList_want _ _ _ _ _ _ _ ?hw141187 ?_
          case hw141187 => kernel_rfl
          intro K hK
          go_simp
          refine hK _ _ ?_
          clear hK K
          refine wpList_append_known rfl _ _ 23 23 23 rfl rfl (.slice (some ⟨wr.heap.size, 0, none⟩) 1 1) (.slice fad fn fc) rfl rfl R9.out ?_
          simp only [Act.put, List.setIfInBounds_toArray, List.set_cons_zero, List.set_cons_succ]
          refine @BigFrame.wpList_want _ _ _ _ _ _ _ ?hw141184 ?_
          case hw141184 => kernel_rfl
          intro K hK
          go_simp
          go_at_call 21
          refine (HFO.out).mono ?_
          rintro e w28 ⟨r, M, rfl, hM, hI, k28⟩
          have HI := Lib.hid hI
          have HM8 := Lib.hid hM
          have K8 := Lib.hid (K9.out.next1 k28)
          have K8R := Lib.hid (K9R.out.next1 k28)
          have O8 := Lib.hid (HO5.out.kept K8.out (Nat.le_refl _))
          have A8 := Lib.hid (OA.out.kept K8R.out (Nat.le_refl _))
          clear hM hI k28
          refine hK _ _ ?_
          clear hK K
          refine @BigFrame.wpList_want _ _ _ _ _ _ _ ?hw141188 ?_
          case hw141188 => kernel_rfl
          intro K hK
          go_simp
          refine hK _ _ ?_
          clear hK K
          obtain ⟨rh, rad, rg, ro, rc, rfl, rcell⟩ := id HM8.out
          obtain ⟨mad, mc, rfl⟩ := HO5.out.shape
          obtain ⟨aad, ac, rfl⟩ := OA.out.shape (n := fn + 1) (by rw [List.length_cons, HFN.out])
          have HRF := Lib.hid (reffollows_calls fs (l :: F) (.slice mad fs.length mc) (.slice aad (fn + 1) ac) w28 O8.out.fs A8.out.hs (by rw [List.length_cons, ← HFN.out]; have := HFS.out.1; have := HL24.out; have := HIL.out; omega) (by have := HFS.out.1; have := HL24.out; have := HIL.out; omega) hsm)
          have HRC := Lib.hid rcell
          have HLE := Lib.hid (fun (u : World) (k : Kept w5.heap.size w5.heap.size w5 u) => (show Calls Try.prog 19 #[.pointer (some ⟨bb, 0, none⟩)] u fun e w' => e = .returned (.int .i64 (fs.length : Nat)) ∧ w' = u from by
           obtain ⟨n', _, S, h3⟩ := HB5.out.kept k
           exact len_calls b2 bb n' fs _ S u h3))
          have hml := is_length HI.out
          clear rh rcell hsm
          obtain ⟨ml, hml9⟩ : ∃ t, t = M.length := ⟨_, rfl⟩
          obtain ⟨gl, hgl9⟩ : ∃ t, t = fs.length := ⟨_, rfl⟩
          have hgl3 : (gl : Int) ≤ 2000 := by have := HFS.out.1; have := HL24.out; have := HIL.out; omega
          have hml3 : (ml : Int) ≤ 1000000 := by rw [List.length_cons, ← HFN.out] at hml; have := HFS.out.1; have := HL24.out; have := HIL.out; omega
          have hgg : ((gl : Int) == (gl : Int)) = true := by simp
          have hmm : ((ml : Int) == (ml : Int)) = true := by simp
          rw [← hml9]
          rw [← hgl9] at HRF HLE ⊢
          have HML := Lib.hid hml9
          clear hml hml9 hgl9 houts hF24
          go_upto_region 29 with fail
          refine wp_region_lit ?_
          refine @BigFrame.wpList_want _ _ _ _ _ _ _ ?hw141190 ?_
          case hw141190 => kernel_rfl
          intro K hK
          go_simp
          refine hK _ _ ?_
          clear hK K
          refine @BigFrame.wpList_want _ _ _ _ _ _ _ ?hw141191 ?_
          case hw141191 => kernel_rfl
          intro K hK
          go_simp
          refine hK _ _ ?_
          clear hK K
          refine @BigFrame.wpList_want _ _ _ _ _ _ _ ?hw141189 ?_
          case hw141189 => kernel_rfl
          intro K hK
          go_simp
          go_at_call 22
          refine (HRF.out).mono ?_
          rintro e w29 ⟨r2, M2, rfl, o29, hI2, k29⟩
          have hMM : M2 = M := hI2.one HI.out
          subst hMM
          have O9 := Lib.hid o29
          have K29 := Lib.hid (K8.out.next1 k29)
          have HM9 := Lib.hid (HM8.out.kept k29)
          clear hI2 k29 o29
          refine hK _ _ ?_
          clear hK K
          refine @BigFrame.wpList_want _ _ _ _ _ _ _ ?hw141192 ?_
          case hw141192 => kernel_rfl
          intro K hK
          go_simp
          refine hK _ _ ?_
          clear hK K
          obtain ⟨sad, sc, rfl⟩ := O9.out.shape (n := ml) HML.out.symm
          go_upto_region 30 with fail
          refine wp_region_lit ?_
          refine @BigFrame.wpList_want _ _ _ _ _ _ _ ?hw141194 ?_
          case hw141194 => kernel_rfl
          intro K hK
          go_simp
          refine hK _ _ ?_
          clear hK K
          refine @BigFrame.wpList_want _ _ _ _ _ _ _ ?hw141193 ?_
          case hw141193 => kernel_rfl
          intro K hK
          go_simp
          go_at_call 19
          refine (HLE.out _ K29.out).mono ?_
          rintro e w30 ⟨rfl, rfl⟩
          refine hK _ _ ?_
          clear hK K
          refine @BigFrame.wpList_want _ _ _ _ _ _ _ ?hw141195 ?_
          case hw141195 => kernel_rfl
          intro K hK
          go_simp
          refine hK _ _ ?_
          clear hK K
          refine @BigFrame.wpList_want _ _ _ _ _ _ _ ?hw141196 ?_
          case hw141196 => kernel_rfl
          intro K hK
          go_simp
          refine hK _ _ ?_
          clear hK K
          refine @BigFrame.wpList_want _ _ _ _ _ _ _ ?hw141197 ?_
          case hw141197 => kernel_rfl
          intro K hK
          go_simp
          refine hK _ _ ?_
          clear hK K
          refine @BigFrame.wpList_want _ _ _ _ _ _ _ ?hw141198 ?_
          case hw141198 => kernel_rfl
          intro K hK
          go_simp
          refine hK _ _ ?_
          clear hK K
          refine @BigFrame.wpList_want _ _ _ _ _ _ _ ?hw141199 ?_
          case hw141199 => kernel_rfl
          intro K hK
          go_simp
          refine hK _ _ ?_
          clear hK K
          refine @BigFrame.wpList_want _ _ _ _ _ _ _ ?hw141200 ?_
          case hw141200 => kernel_rfl
          intro K hK
          go_simp
          refine hK _ _ ?_
          clear hK K
          refine @BigFrame.wpList_want _ _ _ _ _ _ _ ?hw141201 ?_
          case hw141201 => kernel_rfl
          intro K hK
          go_simp
          refine hK _ _ ?_
          clear hK K
          refine @BigFrame.wpList_want _ _ _ _ _ _ _ ?hw141202 ?_
          case hw141202 => kernel_rfl
          intro K hK
          go_simp
          refine hK _ _ ?_
          clear hK K
          refine @BigFrame.wpList_want _ _ _ _ _ _ _ ?hw141203 ?_
          case hw141203 => kernel_rfl
          intro K hK
          go_simp
          refine hK _ _ ?_
          clear hK K
          refine @BigFrame.wpList_want _ _ _ _ _ _ _ ?hw141204 ?_
          case hw141204 => kernel_rfl
          intro K hK
          go_simp
          refine hK _ _ ?_
          clear hK K
          have HIX := Lib.hid HM9.out
          have HOX := Lib.hid O9.out.hs
          obtain ⟨hx32, rad9, rg9, ro9, rc9, hsl9, hcr9⟩ := HIX.out
          injection hsl9 with e1 e2 e3
          subst e1 e3
          clear e2
          obtain ⟨hy32, sad9, sg9, so9, sc9, hsm9, hcs9⟩ := HOX.out
          injection hsm9 with e1 e2 e3
          subst e1 e3
          clear e2
          have HCR := Lib.hid hcr9
          have HCS := Lib.hid hcs9
          have HX32 := Lib.hid hx32
          clear hcr9 hcs9 hx32 hy32 HIX HOX HRC
          go_wp2_with fail
          go_loopw [23] (fun s23 x => ∃ j : Nat, s23 = .int .i64 (j : Int) ∧ Hid (j ≤ ml) ∧ Hid (Kept w30.heap.size w30.heap.size w30 x)) (fun s23 _ => ml - (RowKit.intOf s23).toNat)
          case atStart => exact ⟨0, rfl, Lib.hid (Nat.zero_le _), Lib.hid (Kept.refl _ _ _)⟩
          case round =>
           obtain ⟨j, rfl, hj, KK9⟩ := hrel
           by_cases hlt : j < ml
           ·have hlti : (j : Int) < (ml : Int) := by omega
            have hj0 : ¬ (j : Int) < 0 := by omega
            have hjM := hlt
            rw [HML.out] at hjM
            obtain ⟨had, hrg, hrr⟩ := HCR.out j hjM
            obtain ⟨had2, hsg, hss⟩ := HCS.out j hjM
            subst had had2
            have hx := HX32.out _ (List.getElem_mem hjM)
            generalize M2[j] = x9 at hrr hss hx
            have HLT9 := Lib.hid hlt
            obtain ⟨E, hE⟩ : ∃ E, E = (bcells x9).toArray := ⟨_, rfl⟩
            have HEQ := Lib.hid (fun u => (by rw [hE]; have h := hash_equalIn u x9 x9 hx hx; rwa [beq_self_eq_true] at h : (Op.equalIn 10000 26 (.agg E) (.agg E)).run Try.prog u = .ok true u))
            have HL1 := Lib.hid (fun (u : World) (kk : Kept w30.heap.size w30.heap.size w30 u) => (by rw [hE]; exact run_loadVar_mid u rg9 (ro9 + j * 32) 26 (bcells x9) _ (rangeAt_kept kk hrr hrg (Nat.ne_of_lt hrg)) Try.underlying26 rfl (by rw [bcells_length, hx]; kernel_rfl) : (loadVar 26 ⟨rg9, ro9 + j * 32, none⟩).run Try.prog u = .ok (.agg E) u))
            have HL2 := Lib.hid (fun (u : World) (kk : Kept w30.heap.size w30.heap.size w30 u) => (by rw [hE]; exact run_loadVar_mid u sg9 (so9 + j * 32) 25 (bcells x9) _ (rangeAt_kept kk hss hsg (Nat.ne_of_lt hsg)) Try.underlying25 rfl (by rw [bcells_length, hx]; kernel_rfl) : (loadVar 25 ⟨sg9, so9 + j * 32, none⟩).run Try.prog u = .ok (.agg E) u))
            clear hrr hss hx hE hrg hsg hlt hjM
            as_aux_lemma =>
             go_upto_region 33 with fail
             refine wp_region_lit ?_
             refine @BigFrame.wpList_want _ _ _ _ _ _ _ ?hw141205 ?_
             case hw141205 => kernel_rfl
             intro K hK
             go_simp
             refine hK _ _ ?_
             clear hK K
             refine @BigFrame.wpList_want _ _ _ _ _ _ _ ?hw141206 ?_
             case hw141206 => kernel_rfl
             intro K hK
             go_simp
             refine hK _ _ ?_
             clear hK K
             refine @BigFrame.wpList_want _ _ _ _ _ _ _ ?hw141207 ?_
             case hw141207 => kernel_rfl
             intro K hK
             go_simp
             refine hK _ _ ?_
             clear hK K
             refine @BigFrame.wpList_want _ _ _ _ _ _ _ ?hw141208 ?_
             case hw141208 => kernel_rfl
             intro K hK
             go_simp
             refine hK _ _ ?_
             clear hK K
             go_upto_region 35 with fail
             refine wp_region_noPanic ?_
             refine wp_region_held_drew (S := fun w' => Kept w30.heap.size w30.heap.size w30 w') (by kernel_rfl) (KK9.out.drew) (fun hH => ?_)
             refine wpAnyH_take_ex (i := 0) 161 rfl rfl (by kernel_rfl) (by kernel_rfl) (by kernel_rfl) (fun _ _ _ _ h => h) (by kernel_rfl) hH ?_
             apply Exists.intro
             apply And.intro
             ·intro w9 _
              go_simp
              first | done | rfl
             simp only [List.setIfInBounds_toArray, List.set_cons_zero, List.set_cons_succ]
             refine wpAnyH_take_ex (i := 1) 162 rfl rfl (by kernel_rfl) (by kernel_rfl) (by kernel_rfl) (fun _ _ _ _ h => h) (by kernel_rfl) hH ?_
             apply Exists.intro
             apply And.intro
             ·intro w9 _
              go_simp
              first | done | rfl
             simp only [List.setIfInBounds_toArray, List.set_cons_zero, List.set_cons_succ]
             refine wpAnyH_take_ex (i := 2) 163 rfl rfl (by kernel_rfl) (by kernel_rfl) (by kernel_rfl) (fun _ _ _ _ h => h) (by kernel_rfl) hH ?_
             apply Exists.intro
             apply And.intro
             ·intro w9 _
              go_simp
              first | done | rfl
             simp only [List.setIfInBounds_toArray, List.set_cons_zero, List.set_cons_succ]
             refine wpAnyH_take_at (i := 3) 164 (.agg E) rfl rfl (by kernel_rfl) (by kernel_rfl) (by kernel_rfl) (fun _ _ _ h => h) (yieldsIf_load_known (by kernel_rfl) 26 _ rfl (rg9) (ro9 + j * 32) rfl (.agg E) (fun u hu => HL1.out u hu)) hH ?_
             simp only [List.setIfInBounds_toArray, List.set_cons_zero, List.set_cons_succ]
             refine wpAnyH_take_ex (i := 4) 165 rfl rfl (by kernel_rfl) (by kernel_rfl) (by kernel_rfl) (fun _ _ _ _ h => h) (by kernel_rfl) hH ?_
             apply Exists.intro
             apply And.intro
             ·intro w9 _
              go_simp
              first | done | rfl
             simp only [List.setIfInBounds_toArray, List.set_cons_zero, List.set_cons_succ]
             refine wpAnyH_take_ex (i := 5) 166 rfl rfl (by kernel_rfl) (by kernel_rfl) (by kernel_rfl) (fun _ _ _ _ h => h) (by kernel_rfl) hH ?_
             apply Exists.intro
             apply And.intro
             ·intro w9 _
              go_simp
              first | done | rfl
             simp only [List.setIfInBounds_toArray, List.set_cons_zero, List.set_cons_succ]
             refine wpAnyH_take_ex (i := 6) 167 rfl rfl (by kernel_rfl) (by kernel_rfl) (by kernel_rfl) (fun _ _ _ _ h => h) (by kernel_rfl) hH ?_
             apply Exists.intro
             apply And.intro
             ·intro w9 _
              go_simp
              first | done | rfl
             simp only [List.setIfInBounds_toArray, List.set_cons_zero, List.set_cons_succ]
             refine wpAnyH_take_at (i := 7) 168 (.agg E) rfl rfl (by kernel_rfl) (by kernel_rfl) (by kernel_rfl) (fun _ _ _ h => h) (yieldsIf_load_known (by kernel_rfl) 25 _ rfl (sg9) (so9 + j * 32) rfl (.agg E) (fun u hu => HL2.out u hu)) hH ?_
             simp only [List.setIfInBounds_toArray, List.set_cons_zero, List.set_cons_succ]
             refine wpAnyH_take_at (i := 8) 169 (.bool (!true)) rfl rfl (by kernel_rfl) (by kernel_rfl) (by kernel_rfl) (fun _ _ _ h => h) (yieldsIf_neq_structP (by kernel_rfl) _ _ _ _ rfl E E rfl rfl macGuard25 true HEQ.out) hH ?_
             simp only [List.setIfInBounds_toArray, List.set_cons_zero, List.set_cons_succ]
             refine wpAnyH_done (by kernel_rfl) ?_ _
             refine NoPanic.normal ?_
             have KD := Lib.hid hH
             generalize wr.drew = wn at KD ⊢
             clear hH
             go_wp2
             go_roundw
             case rel => exact ⟨j + 1, by simp, Lib.hid HLT9.out, KD⟩
             case measure => have := HLT9.out; simp [RowKit.intOf]; omega
           ·have hnl9 : ¬ (j : Int) < (ml : Int) := by omega
            clear hlt
            as_aux_lemma =>
             go_wp2
             go_ret
             exact ⟨rfl, HK5.out.next1 (K29.out.next1 KK9.out)⟩
  ·have hfl : (fn : Int) > 24 := by omega
   clear hflen
   go_wp2_with (first
    | (go_at_call 23; refine (ppr_awake _).mono ?_; rintro e w3 ⟨rfl, k3⟩; have K3 := Lib.hid (K2.out.next1 k3))
    | (go_at_call 23; refine (ppr_awake _).mono ?_; rintro e w2 ⟨rfl, k2⟩; have K2 := Lib.hid (K1.out.next1 k2)))
   go_ret
   exact ⟨rfl, K3.out⟩
 ·have hgt : (ln : Int) > 24 := by omega
  clear hlen
  go_wp2_with (first
   | (go_at_call 23; refine (ppr_awake _).mono ?_; rintro e w3 ⟨rfl, k3⟩; have K3 := Lib.hid (K2.out.next1 k3))
   | (go_at_call 23; refine (ppr_awake _).mono ?_; rintro e w2 ⟨rfl, k2⟩; have K2 := Lib.hid (K1.out.next1 k2)))
  go_ret
  exact ⟨rfl, K3.out⟩

end Go.Proofs.Ytanfnafiofkihaa
