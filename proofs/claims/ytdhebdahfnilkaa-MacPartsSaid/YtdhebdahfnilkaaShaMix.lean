/-
  The landed digester's mixing of a block.
-/
import Derived.Test.YtdhebdahfnilkaaShaSpread
import Derived.Test.YtdhebdahfnilkaaShaDig
import Derived.Deep.QuietTactic
namespace Go.Proofs.Ytdhebdahfnilkaa
open Go.RowKit

theorem St_length (s : Sm.St) : s.list.length = 8 := rfl

set_option maxRecDepth 100000 in
set_option maxHeartbeats 1600000 in
theorem mix_calls (b : Nat) (v : Sm.St) (P : List UInt8) (fl n : Int) (w : World) (hP : P.length = 64) (h : Dig w b v.list P fl n) :
    Calls Try.prog 32 #[.pointer (some ⟨b, 0, none⟩)] w fun e w' => e = .returned (.tuple #[]) ∧ Dig w' b (Sm.block P 0 v).list P fl n ∧ Kept w.heap.size b w w' := by
  have hb := h.lt
  have hsp := spread_calls b P w hP hb (fun j hj => h.blk (St_length v) hP j hj)
  have H := Lib.hid h
  clear h
  go_enter Try.func32, Try.ntmps32
  go_wp2_with fail
  refine hsp.mono ?_
  rintro e w1 ⟨rfl, k1⟩
  clear hsp
  have hD := H.out.same (k1.block b hb (by omega))
  have hsz : (wcells (Sm.sched P 0)).toArray.size = 64 := by simp [wcells_length, Sm.sched_length]
  have hall : (wcells (Sm.sched P 0)).toArray.all (·.oneCell') = true := wcells_all _
  have hst := store_new (P := Try.prog) w1 51 zeros64 (wcells (Sm.sched P 0)).toArray (by rw [hsz]; rfl) hall
  generalize hW : (wcells (Sm.sched P 0)).toArray = cs at hsz hall hst ⊢
  have HW := Lib.hid hW.symm
  have Hst := Lib.hid hst
  clear hst hW
  go_wp2_with fail
  rw [zeros64_eq, Hst.out]
  have hB : (w1.alloc (.cells cs 51)).heap[w1.heap.size]? = some (.cells cs 51 (0, 0)) := heap_new _ _
  have k2 : Kept (b + 1) w.heap.size w (w1.alloc (.cells cs 51)) := (k1.alloc k1.size (.cells cs 51)).mono (by omega) (fun k hk _ => by omega)
  have hD2 := hD.same (Below.heap_alloc w1 (.cells cs 51) b (by have := k1.size; omega))
  have hs2 : (w1.alloc (.cells cs 51)).heap.size = w1.heap.size + 1 := by simp
  have hs1 := k1.size
  have k3 : Kept w.heap.size w.heap.size w (w1.alloc (.cells cs 51)) := k1.alloc k1.size (.cells cs 51)
  generalize w1.alloc (.cells cs 51) = w2 at hB hD2 k3 hs2 ⊢
  obtain ⟨wb, hwb⟩ : ∃ wb, wb = w1.heap.size := ⟨_, rfl⟩
  rw [← hwb] at hB hs1 hs2 ⊢
  have c0 : w2.cell? ⟨b, 0, none⟩ = some (.int .u32 (v.a.toNat : Int)) := hD2.state (St_length v) 0 (by decide)
  have c1 : w2.cell? ⟨b, 1, none⟩ = some (.int .u32 (v.b.toNat : Int)) := hD2.state (St_length v) 1 (by decide)
  have c2 : w2.cell? ⟨b, 2, none⟩ = some (.int .u32 (v.c.toNat : Int)) := hD2.state (St_length v) 2 (by decide)
  have c3 : w2.cell? ⟨b, 3, none⟩ = some (.int .u32 (v.d.toNat : Int)) := hD2.state (St_length v) 3 (by decide)
  have c4 : w2.cell? ⟨b, 4, none⟩ = some (.int .u32 (v.e.toNat : Int)) := hD2.state (St_length v) 4 (by decide)
  have c5 : w2.cell? ⟨b, 5, none⟩ = some (.int .u32 (v.f.toNat : Int)) := hD2.state (St_length v) 5 (by decide)
  have c6 : w2.cell? ⟨b, 6, none⟩ = some (.int .u32 (v.g.toNat : Int)) := hD2.state (St_length v) 6 (by decide)
  have c7 : w2.cell? ⟨b, 7, none⟩ = some (.int .u32 (v.h.toNat : Int)) := hD2.state (St_length v) 7 (by decide)
  have HD := Lib.hid hD2
  have K3 := Lib.hid k3
  clear hD hD2 hwb Hst k1 k2 k3 hsz hall
  go_wp2_with fail
  go_quiet (fail)
  generalize nq = n1
  go_wp2_with fail
  go_quiet (fail)
  go_wp2_with fail
  clear c0 c1 c2 c3 c4 c5 c6 c7
  have hD3 : Dig ((w2.drewN n1).drewN nq) b v.list P fl n := HD.out
  have hB3 : ((w2.drewN n1).drewN nq).heap[wb]? = some (.cells cs 51 (0, 0)) := hB
  have k3 : Kept w.heap.size w.heap.size w ((w2.drewN n1).drewN nq) := (K3.out.drewN _).drewN _
  have hs3 : ((w2.drewN n1).drewN nq).heap.size = wb + 1 := hs2
  generalize (w2.drewN n1).drewN nq = w3 at hD3 hB3 k3 hs3 ⊢
  rw [HW.out] at hB3
  have HD3 := Lib.hid hD3
  have HB3 := Lib.hid hB3
  have K4 := Lib.hid k3
  have HS3 := Lib.hid hs3
  clear hD3 hB3 k3 hs3 HD K3 hB
  go_loopw [3, 4, 5, 6, 7, 8, 9, 10, 11, 12, 13, 58] (fun a1 b1 c1 d1 e1 f1 g1 h1 i1 t1 t2 j w9 => ∃ q : Nat, q ≤ 64 ∧ j = .int .i64 (q : Int) ∧ ∃ A B C D E F G I : UInt32, Hid (Sm.rounds (Sm.sched P 0) v q = ⟨A, B, C, D, E, F, G, I⟩) ∧ a1 = .int .u32 (A.toNat : Int) ∧ b1 = .int .u32 (B.toNat : Int) ∧ c1 = .int .u32 (C.toNat : Int) ∧ d1 = .int .u32 (D.toNat : Int) ∧ e1 = .int .u32 (E.toNat : Int) ∧ f1 = .int .u32 (F.toNat : Int) ∧ g1 = .int .u32 (G.toNat : Int) ∧ h1 = .int .u32 (I.toNat : Int) ∧ Hid (∃ m, w9 = w3.drewN m)) (fun _ _ _ _ _ _ _ _ _ _ _ j _ => 64 - (intOf j).toNat)
  case atStart => exact ⟨0, by omega, rfl, v.a, v.b, v.c, v.d, v.e, v.f, v.g, v.h, Lib.hid rfl, rfl, rfl, rfl, rfl, rfl, rfl, rfl, rfl, Lib.hid ⟨0, rfl⟩⟩
  case round =>
    obtain ⟨q, hq, rfl, A, B, C, D, E, F, G, I, hR, rfl, rfl, rfl, rfl, rfl, rfl, rfl, rfl, hw⟩ := hrel
    by_cases hlt : q < 64
    · have ck : wr.cell? ⟨b, 8 + q, none⟩ = some (.int .u32 ((Sm.K.getD q 0).toNat : Int)) := by
        obtain ⟨m, rfl⟩ := hw.out
        exact HD3.out.k (St_length v) q hlt
      have cw : wr.cell? ⟨wb, q, none⟩ = some (.int .u32 (((Sm.sched P 0).getD q 0).toNat : Int)) := by
        obtain ⟨m, rfl⟩ := hw.out
        exact cells_get HB3.out (wcells_at (Sm.sched P 0) q (by rw [Sm.sched_length]; exact hlt))
      have hstep : Sm.rounds (Sm.sched P 0) v (q + 1) = Sm.step ⟨A, B, C, D, E, F, G, I⟩ (Sm.K.getD q 0) ((Sm.sched P 0).getD q 0) := by rw [Sm.rounds, hR.out]
      have q1 : (q : Int) < 64 := by omega
      have q8 : q < 64 := hlt
      generalize Sm.K.getD q 0 = kq at ck hstep
      generalize (Sm.sched P 0).getD q 0 = wq at cw hstep
      have HST := Lib.hid hstep
      clear hstep
      go_wp2_with fail
      go_quiet (first
        | (go_at_call 35; with_reducible exact Calls.quiet_of_same (right6 E _))
        | (go_at_call 35; with_reducible exact Calls.quiet_of_same (right11 E _))
        | (go_at_call 35; with_reducible exact Calls.quiet_of_same (right25 E _)))
      rw [t1_val A B C D E F G I kq wq]
      generalize hT1 : Sm.t1 ⟨A, B, C, D, E, F, G, I⟩ kq wq = T1
      have ht2 := t2_val A B C D E F G I
      generalize hT2 : Sm.t2 ⟨A, B, C, D, E, F, G, I⟩ = T2 at ht2
      obtain ⟨DT, hDT⟩ : ∃ Z, Z = D + T1 := ⟨_, rfl⟩
      obtain ⟨TT, hTT⟩ : ∃ Z, Z = T1 + T2 := ⟨_, rfl⟩
      have a1 : ((D.toNat : Int) + (T1.toNat : Int)) % 4294967296 = (DT.toNat : Int) := by rw [hDT]; exact w32_add _ _
      have a2 : ((T1.toNat : Int) + (T2.toNat : Int)) % 4294967296 = (TT.toNat : Int) := by rw [hTT]; exact w32_add _ _
      have hnext : Sm.rounds (Sm.sched P 0) v (q + 1) = ⟨TT, A, B, C, DT, E, F, G⟩ := by
        rw [HST.out, Sm.step, hT1, hT2, hDT, hTT]
      have Hnext := Lib.hid hnext
      clear hnext hT1 hT2 hDT hTT ck cw
      go_wp2_with (first
        | (go_at_call 35; with_reducible refine (right2 A _).mono ?_; rintro e w' ⟨rfl, rfl⟩)
        | (go_at_call 35; with_reducible refine (right13 A _).mono ?_; rintro e w' ⟨rfl, rfl⟩)
        | (go_at_call 35; with_reducible refine (right22 A _).mono ?_; rintro e w' ⟨rfl, rfl⟩))
      go_roundw
      case rel => exact ⟨q + 1, by omega, by go_num, TT, A, B, C, DT, E, F, G, Lib.hid Hnext.out, by first | rfl | simp only [a2], rfl, rfl, rfl, by first | rfl | simp only [a1], rfl, rfl, rfl, by obtain ⟨m, rfl⟩ := hw.out; exact Lib.hid ⟨m + nq, by simp [World.drewN, Nat.add_assoc]⟩⟩
      case measure => simp [intOf]; omega
    · obtain rfl : q = 64 := by omega
      have hblk : Sm.block P 0 v = Sm.plus v ⟨A, B, C, D, E, F, G, I⟩ := by rw [Sm.block, hR.out]
      have hD4 : Dig wr b (plusTo v.list [A, B, C, D, E, F, G, I] 0) P fl n := by
        obtain ⟨m, rfl⟩ := hw.out
        rw [show [A, B, C, D, E, F, G, I] = (⟨A, B, C, D, E, F, G, I⟩ : Sm.St).list from rfl, plusTo_zero]
        exact HD3.out
      have k4 : Kept w.heap.size w.heap.size w wr := by
        obtain ⟨m, rfl⟩ := hw.out
        exact K4.out.drewN m
      have hs4 : wr.heap.size = wb + 1 := by
        obtain ⟨m, rfl⟩ := hw.out
        exact HS3.out
      have Hblk := Lib.hid hblk
      clear hblk hw
      go_wp2_with fail
      rw [show #[Value.int IntKind.u32 (A.toNat : Int), Value.int IntKind.u32 (B.toNat : Int), Value.int IntKind.u32 (C.toNat : Int), Value.int IntKind.u32 (D.toNat : Int), Value.int IntKind.u32 (E.toNat : Int), Value.int IntKind.u32 (F.toNat : Int), Value.int IntKind.u32 (G.toNat : Int), Value.int IntKind.u32 (I.toNat : Int)] = (wcells [A, B, C, D, E, F, G, I]).toArray from rfl]
      obtain ⟨S, hS⟩ : ∃ S, S = [A, B, C, D, E, F, G, I] := ⟨_, rfl⟩
      have hSl : S.length = 8 := by rw [hS]; rfl
      rw [← hS] at hD4 ⊢
      have HS := Lib.hid hS
      clear hS
      have Hk4 := Lib.hid k4
      have Hs4 := Lib.hid hs4
      have HD4 := Lib.hid hD4
      clear k4 hs4 hD4
      obtain ⟨V, hV⟩ : ∃ V, V = v.list := ⟨_, rfl⟩
      have hVl : V.length = 8 := by rw [hV]; rfl
      rw [← hV] at HD4
      have HV := Lib.hid hV
      clear hV
      generalize hwrr : wr = wrr at HD4 Hk4 Hs4 ⊢
      clear hwrr
      rw [show ((64 : Nat) : Int) = 64 from rfl]
      go_loopw [14, 15, 133] (fun i1 x1 j w9 => ∃ q : Nat, q ≤ 8 ∧ j = .int .i64 (q : Int) ∧ Hid (Dig w9 b (plusTo V S q) P fl n) ∧ Hid (Kept w.heap.size b wrr w9)) (fun _ _ j _ => 8 - (intOf j).toNat)
      case atStart => exact ⟨0, by omega, rfl, HD4, Lib.hid (Kept.refl _ _ _)⟩
      case round =>
        obtain ⟨q, hq, rfl, hD, hk⟩ := hrel
        by_cases hlt : q < 8
        · have c1 := hD.out.state (plusTo_length _ _ _) q hlt
          have f1 := hD.out.free q
          rw [plusTo_getD _ _ _ _ hlt, if_neg (Nat.lt_irrefl q)] at c1
          have q1 : (q : Int) < 8 := by omega
          have hix : (wcells S).toArray[q]? = some (.int .u32 ((S.getD q 0).toNat : Int)) := by
            rw [List.getElem?_toArray]
            exact wcells_at S q (by omega)
          have hrun := fun w => run_index_arr w 53 50 8 (wcells S).toArray .i64 q _ (by kernel_rfl) (Try.sizeOf50 w) (Try.isAgg50 w) hlt hix
          obtain ⟨Z, hZ⟩ : ∃ Z, Z = V.getD q 0 + S.getD q 0 := ⟨_, rfl⟩
          have a1 : IntKind.u32.wrap (((V.getD q 0).toNat : Int) + ((S.getD q 0).toNat : Int)) = (Z.toNat : Int) := by rw [IntKind.wrap_u32, hZ]; exact w32_add _ _
          have e1 := plusTo_set V S q hlt
          rw [← hZ] at e1
          have HE := Lib.hid e1
          have Hrun := Lib.hid hrun
          clear hrun hix hZ e1
          generalize V.getD q 0 = X at c1 a1
          generalize S.getD q 0 = Y at Hrun a1
          unfold w32 at c1
          go_wp2_with fail
          rw [Hrun.out]
          go_wp2_with fail
          refine wp_region_still_tail 11 (by kernel_rfl) (by kernel_rfl) ?_
          simp only [List.take_succ_cons, List.take_zero, List.drop_succ_cons, List.drop_zero]
          generalize hw9 : ({ heap := wr.heap, tape := wr.tape, drawn := wr.drawn + 1, os := wr.os, output := wr.output } : World) = wd
          have c1d : wd.cell? ⟨b, q, none⟩ = some (.int .u32 (X.toNat : Int)) := by rw [← hw9]; exact c1
          have f1d : wd.frozen? ⟨b, q, none⟩ = false := by rw [← hw9]; exact f1
          have hDd : Dig wd b (plusTo V S q) P fl n := by rw [← hw9]; exact hD.out
          have kd : Kept w.heap.size b wrr wd := by rw [← hw9]; exact hk.out.drew
          clear hw9 c1 f1
          have hset := hDd.set_state (plusTo_length _ _ _) q hlt Z
          rw [HE.out] at hset
          unfold w32 at hset
          have Hset := Lib.hid hset
          have Kset := Lib.hid (kd.set (b' := b) (.inl rfl) q (.int .u32 (Z.toNat : Int)))
          clear hset hDd kd
          repeat still_step
          refine wpStill_nil ?_
          go_wp2
          go_roundw
          case rel => exact ⟨q + 1, by omega, by go_num, Lib.hid Hset.out, Lib.hid Kset.out⟩
          case measure => simp [intOf]; omega
        · obtain rfl : q = 8 := by omega
          go_wp2_with fail
          go_end0
          refine ⟨rfl, ?_, ?_⟩
          · rw [Hblk.out, ← plusTo_all, ← HV.out]
            rw [show (⟨A, B, C, D, E, F, G, I⟩ : Sm.St).list = S from HS.out.symm]
            exact hD.out
          · exact (Hk4.out.mono (b' := b) (Nat.le_refl _) (fun k hk hkb => by omega)).trans hk.out

end Go.Proofs.Ytdhebdahfnilkaa
