/-
  The landed code of parts under a padded key.
-/
import Derived.Test.YtdhebdahfnilkaaMacPad
import Derived.Laws.MakeOwn
import Derived.Laws.OwnMore
import Derived.StillTailTactics
namespace Go.Proofs.Ytdhebdahfnilkaa
open Go.RowKit

theorem joined_cons (s : ByteArray) (parts : List ByteArray) : joined (s :: parts) (s :: parts).length = s.data.toList ++ joined parts parts.length := by simp [joined]
theorem macInfo9 : (Try.prog.info? 9).map (fun i => (i.zero, i.size, i.bytes)) = some (some (.string ⟨#[]⟩), 1, 16) := by kernel_rfl
theorem mac_str : ∃ i, Try.prog.info? 9 = some i ∧ i.zero = some (.string ⟨#[]⟩) ∧ i.size = 1 ∧ i.bytes = 16 := by
  have h := macInfo9
  cases hq : Try.prog.info? 9 with
  | none => rw [hq] at h; cases h
  | some i =>
    rw [hq] at h
    simp only [Option.map_some, Option.some.injEq, Prod.mk.injEq] at h
    exact ⟨i, rfl, h.1, h.2.1, h.2.2⟩
/-- An empty row of texts with room. -/
theorem make_texts (w : World) (c : Nat) (hc : c < 2147483648) : ∃ w', (Instr.makeSlice 22 (.int .i64 0) (.int .i64 (c : Int))).run Try.prog w = .ok (.slice (some ⟨w.heap.size, 0, none⟩) 0 c) w' ∧
    w'.ownsRow w.heap.size 9 1 (.slice (some ⟨w.heap.size, 0, none⟩) 0 c) 0 [] ∧ w.grownBy w' none := by
  obtain ⟨i, hi, hz, hs, hb⟩ := mac_str
  exact run_make_own (P := Try.prog) w w.heap.size 22 9 i (.string ⟨#[]⟩) 1 Try.underlying22 hi hz hs .i64 .i64 c (by rw [hb]; omega) (by unfold maxLen; omega) (Nat.le_refl _)
/-- Texts put behind those of a row of one's own. -/
theorem append_texts (w : World) (base : Nat) (v : Value) (n : Nat) (xs : List Value) (hown : w.ownsRow base 9 1 v n xs) (hbase : base ≤ w.heap.size) (ad : Option Addr) (m c g o : Nat) (news : List ByteArray) (hm : news.length = m) (hnil : ad = none → m = 0 ∧ c = 0)
    (hcell : ∀ j (hj : j < news.length), ad = some ⟨g, o, none⟩ ∧ w.cell? ⟨g, o + j, none⟩ = some (.string news[j])) (hb : n + m < 2147483648) :
    ∃ v' w', (Builtin.append_ #[22, 22] 22 #[v, .slice ad m c]).run Try.prog w = .ok v' w' ∧ w'.ownsRow base 9 1 v' (n + m) (xs ++ news.map .string) ∧ w.grownBy w' v.ownBlock := by
  obtain ⟨i, hi, hz, hs, hby⟩ := mac_str
  match ad, hnil, hcell with
  | none, hnil, _ =>
    obtain ⟨rfl, rfl⟩ := hnil rfl
    obtain rfl : news = [] := List.length_eq_zero_iff.1 hm
    have := run_append_owned_none (P := Try.prog) (w := w) base 22 22 9 i 1 Try.underlying22 hi v n xs hown
    exact ⟨v, w, this, by simpa using hown, ⟨rfl, rfl, rfl, Nat.le_refl _, fun _ _ _ => rfl⟩⟩
  | some a, _, hcell =>
    obtain ⟨v', w', h1, h2, h3, _⟩ := run_append_own (P := Try.prog) w base 22 22 9 i (.string ⟨#[]⟩) 1 16 Try.underlying22 hi hz hs hby rfl (by decide) v n xs hown a m c (news.map .string)
      (by rw [List.length_map]; omega) (fun j u hu => by
        rw [List.getElem?_map] at hu
        have hj : j < news.length := by
          rcases Nat.lt_or_ge j news.length with h | h
          · exact h
          · rw [List.getElem?_eq_none h] at hu; cases hu
        obtain ⟨h1, h2⟩ := hcell j hj
        cases h1
        rw [List.getElem?_eq_getElem hj] at hu
        simp only [Option.map_some, Option.some.injEq] at hu
        rw [Addr.add_lit, h2, hu])
      (fun u hu => by
        obtain ⟨x, _, rfl⟩ := List.mem_map.1 hu
        rfl) (by unfold maxLen; omega) (by omega) hbase
    exact ⟨v', w', h1, h2, h3⟩
/-- An append of which the run is known. -/
theorem wpList_append_known {P : Program} {ops : Array Oper} {rest : List Oper} {o : Oper} {a : Act} {w w' : World} {v' : Value} {Q : Exit → Act → World → Prop} (hgd : o.guard = none) (s x : Operand) (t t' ty : TypeId) (hty : o.type = ty)
    (ho : o.op = .call { callee := .builtin .append, args := #[s, x], argTypes := #[t, t'] }) (v y : Value) (hs : a.eval s = v) (hx : a.eval x = y) (hr : (Builtin.append_ #[t, t'] ty #[v, y]).run P w = .ok v' w')
    (hk : wpList P ops Q rest (a.put o.dst v') w') : wpList P ops Q (o :: rest) a w := by
  refine wpList_plain hgd fun K hK => ?_
  subst hty
  unfold Oper.wp execOp
  simp only [ho, resolve, invoke, builtin, Sem.run_bind, Sem.run_pure, Result.andThen_ok, List.map_toArray, List.map_cons, List.map_nil, hs, hx, hr]
  exact hK _ _ hk
/-- What a row of texts of one's own is. -/
theorem owns_texts {w : World} {base : Nat} {v : Value} {n : Nat} {xs : List ByteArray} (h : w.ownsRow base 9 1 v n (xs.map .string)) (hn : 0 < n) :
    ∃ g cap, v = .slice (some ⟨g, 0, none⟩) xs.length cap ∧ base ≤ g ∧ g < w.heap.size ∧ ∀ j (hj : j < xs.length), w.cell? ⟨g, 0 + j, none⟩ = some (.string xs[j]) := by
  have hl := h.1
  rw [List.length_map, Nat.mul_one] at hl
  have hlt := h.lt
  have h0 := h
  rcases h.2 with ⟨_, rfl⟩ | ⟨g, cap, cur, rfl, hb, _⟩
  · exact absurd hn (Nat.lt_irrefl _)
  · refine ⟨g, cap, by rw [hl], hb, (hlt g rfl).2, fun j hj => ?_⟩
    have := h0.cells (g := g) rfl j (.string xs[j]) (by rw [List.getElem?_map, List.getElem?_eq_getElem hj]; rfl)
    rwa [Addr.add_lit] at this

set_option maxRecDepth 100000 in
set_option maxHeartbeats 1600000 in
theorem under_calls (f : List UInt8) (hf : Hid (f.length = 64)) (parts : List ByteArray) (ad : Option Addr) (c g o : Nat) (w : World) (hlen : Hid (parts.length < 1073741824)) (htot : Hid ((joined parts parts.length).length < 1073741824))
    (hnil : Hid (ad = none → parts.length = 0 ∧ c = 0)) (hcell : ∀ j (hj : j < parts.length), ad = some ⟨g, o, none⟩ ∧ g < w.heap.size ∧ w.cell? ⟨g, o + j, none⟩ = some (.string parts[j])) :
    Calls Try.prog 20 #[.agg (bcells (padOf f)).toArray, .slice ad parts.length c] w fun e w' => e = .returned (.agg (bcells (Mc.under f (joined parts parts.length))).toArray) ∧ Kept w.heap.size w.heap.size w w' := by
  have HC := Lib.hid hcell
  clear hcell
  have hps : (bcells (padOf f)).toArray.size = 128 := by rw [List.size_toArray, bcells_length, padOf_length f hf.out]
  generalize hpc : (bcells (padOf f)).toArray = pc at hps
  have Hpc := Lib.hid hpc
  clear hpc
  have hl2 := hlen.out
  go_enter Try.func20, Try.ntmps20
  go_upto_region 1 with fail
  rw [zeros32_eq]
  have hP : ((w.alloc (.cells pc 45)).alloc (.cells zeros32 25)).heap[w.heap.size]? = some (.cells pc 45 (0, 0)) := heap_alloc2_old w _ _
  have hR : ((w.alloc (.cells pc 45)).alloc (.cells zeros32 25)).heap[w.heap.size + 1]? = some (.cells zeros32 25 (0, 0)) := heap_alloc2_last w _ _
  have k1 : Kept w.heap.size w.heap.size w ((w.alloc (.cells pc 45)).alloc (.cells zeros32 25)) := ((Kept.refl _ _ _).alloc (Nat.le_refl _) _).alloc (by simp) _
  have s1 : ((w.alloc (.cells pc 45)).alloc (.cells zeros32 25)).heap.size = w.heap.size + 2 := by simp
  generalize (w.alloc (.cells pc 45)).alloc (.cells zeros32 25) = w1 at hP hR k1 s1 ⊢
  obtain ⟨wa, hwa⟩ : ∃ wa, wa = w.heap.size := ⟨_, rfl⟩
  rw [← hwa] at hP hR k1 s1 ⊢
  have HWA := Lib.hid hwa
  have HP := Lib.hid hP
  have HR := Lib.hid hR
  have HK1 := Lib.hid k1
  have HS1 := Lib.hid s1
  clear hwa hP hR k1 s1
  obtain ⟨w2, hm, ho2, hg2⟩ := make_texts w1 (1 + parts.length) (by omega)
  rw [Int.natCast_add] at hm
  have k2 : Kept w1.heap.size w1.heap.size w1 w2 := (Kept.refl _ _ _).grown hg2 (Nat.le_refl _) (fun k h => by cases h)
  generalize hv2 : Value.slice (some ⟨w1.heap.size, 0, none⟩) 0 (1 + parts.length) = v2 at hm ho2
  have hb2 : ∀ k, v2.ownBlock = some k → w1.heap.size ≤ k := fun k h => (ho2.lt k h).1
  have hP2 := (k2.block wa (by have := HS1.out; omega) (by have := HS1.out; omega)).trans HP.out
  have Hm := Lib.hid hm
  have HK2 := Lib.hid k2
  have HP2 := Lib.hid hP2
  have HO2 := Lib.hid ho2
  have HB2 := Lib.hid hb2
  clear hm k2 hP2 ho2 hg2 hb2 hv2
  have hcv1 : ∀ w' : World, w'.heap[wa]? = some (.cells pc 45 (0, 0)) → (convert 38 9 (.slice (some ⟨wa, 0, none⟩) 64 64)).run Try.prog w' = .ok (.string (str (Mc.put 54 f))) w' := fun w' h => by
    rw [← Hpc.out] at h
    have := conv_row w' wa (padOf f) _ _ h 0 64 (Mc.put 54 f) (by rw [List.drop_zero, padOf, List.take_left])
    rwa [Mc.put_length, hf.out] at this
  have hcv2 : ∀ w' : World, w'.heap[wa]? = some (.cells pc 45 (0, 0)) → (convert 38 9 (.slice (some ⟨wa, 64, none⟩) 64 64)).run Try.prog w' = .ok (.string (str (Mc.put 92 f))) w' := fun w' h => by
    rw [← Hpc.out] at h
    have := conv_row w' wa (padOf f) _ _ h 64 64 (Mc.put 92 f) (by
      have hl : (Mc.put 54 f).length = 64 := by rw [Mc.put_length, hf.out]
      rw [padOf, ← hl, List.drop_left, List.take_length])
    rwa [Mc.put_length, hf.out] at this
  have Hcv1 := Lib.hid hcv1
  have Hcv2 := Lib.hid hcv2
  clear hcv1 hcv2
  obtain ⟨s1, hs1⟩ : ∃ s1, s1 = str (Mc.put 54 f) := ⟨_, rfl⟩
  obtain ⟨s2, hs2⟩ : ∃ s2, s2 = str (Mc.put 92 f) := ⟨_, rfl⟩
  rw [← hs1] at Hcv1
  rw [← hs2] at Hcv2
  have Hs1 := Lib.hid hs1
  have Hs2 := Lib.hid hs2
  clear hs1 hs2
  -- the first text
  obtain ⟨v3, w3, hr3, ho3, hg3⟩ := append_texts (w2.alloc (.cells #[.string s1] 9)) w1.heap.size v2 0 [] (HO2.out.alloc _) (by have := HK2.out.size; simp; omega) (some ⟨w2.heap.size, 0, none⟩) 1 1 w2.heap.size 0 [s1] rfl (fun h => by cases h) (fun j hj => by
    obtain rfl : j = 0 := by simp at hj; omega
    exact ⟨rfl, World.cell?_alloc_new w2 _ _ 0⟩) (by omega)
  have k3 : Kept w1.heap.size w1.heap.size w1 w3 := (HK2.out.alloc HK2.out.size _).grown hg3 (by have := HK2.out.size; simp; omega) HB2.out
  have hb3 : ∀ k, v3.ownBlock = some k → w1.heap.size ≤ k := fun k h => (ho3.lt k h).1
  -- the other texts
  obtain ⟨v4, w4, hr4, ho4, hg4⟩ := append_texts w3 w1.heap.size v3 (0 + 1) _ ho3 k3.size ad parts.length c g o parts rfl hnil.out (fun j hj => by
    obtain ⟨h1, h2, h3⟩ := HC.out j hj
    refine ⟨h1, ?_⟩
    have h4 := HK1.out.cell (p := ⟨g, o + j, none⟩) (by show g < _; rw [HWA.out]; exact h2) (by show g ≠ _; rw [HWA.out]; omega)
    have h5 := k3.cell (p := ⟨g, o + j, none⟩) (by show g < _; have := HS1.out; have := HWA.out; omega) (by show g ≠ _; have := HS1.out; have := HWA.out; omega)
    rw [h5, h4, h3]) (by omega)
  have k4 : Kept w1.heap.size w1.heap.size w1 w4 := k3.grown hg4 k3.size hb3
  rw [show [] ++ List.map Value.string [s1] ++ List.map Value.string parts = (s1 :: parts).map Value.string by simp] at ho4
  obtain ⟨g4, c4, rfl, hbg, hlt4, hc4⟩ := owns_texts ho4 (by omega)
  have hP4 := (k4.block wa (by have := HS1.out; omega) (by have := HS1.out; omega)).trans HP.out
  have hR4 := (k4.block (wa + 1) (by have := HS1.out; omega) (by have := HS1.out; omega)).trans HR.out
  have hjc := joined_cons s1 parts
  have hl1 : s1.data.toList = Mc.put 54 f := by rw [Hs1.out]
  rw [hl1] at hjc
  have hjl : (joined (s1 :: parts) (s1 :: parts).length).length < 1152921504606846976 := by
    rw [hjc, List.length_append, Mc.put_length, hf.out]
    have := htot.out
    omega
  have hsum := sum_calls (s1 :: parts) (some ⟨g4, 0, none⟩) c4 g4 0 w4 (Lib.hid (by rw [List.length_cons]; omega)) (Lib.hid hjl) (fun j hj => ⟨rfl, hlt4, hc4 j hj⟩)
  rw [hjc] at hsum
  generalize hS : Sm.sum (Mc.put 54 f ++ joined parts parts.length) = S at hsum
  have hS32 : S.length = 32 := by rw [← hS]; exact sum_length _
  have hcs : (bcells S).toArray.size = 32 := by rw [List.size_toArray, bcells_length, hS32]
  have hall := bcells_all S
  have HS := Lib.hid hS
  have Hsum := Lib.hid hsum
  have HS32 := Lib.hid hS32
  have Hcs := Lib.hid hcs
  have Hall := Lib.hid hall
  have Hr3 := Lib.hid hr3
  have Hr4 := Lib.hid hr4
  have HK4 := Lib.hid k4
  have HP4 := Lib.hid hP4
  have HR4 := Lib.hid hR4
  clear hsum hS hS32 hcs hall hr3 hr4 k4 k3 hb3 hP4 hR4 hjc hjl hl1 ho3 ho4 hg3 hg4 hbg hlt4 hc4
  go_wp2_with fail
  rw [show (1 : Int) = ((1 : Nat) : Int) from rfl, Hm.out]
  go_wp2_with fail
  rw [Hcv1.out _ HP2.out]
  go_wp2_with (first | (with_reducible refine wpList_append_known rfl _ _ 22 22 22 rfl rfl v2 (.slice (some ⟨w2.heap.size, 0, none⟩) 1 1) rfl rfl Hr3.out ?_) | (with_reducible refine wpList_append_known rfl _ _ 22 22 22 rfl rfl v3 (.slice ad parts.length c) rfl rfl Hr4.out ?_))
  refine Hsum.out.mono ?_
  rintro e w5 ⟨rfl, k5⟩
  go_wp2_with fail
  rw [store_new w5 25 _ _ (by rw [Hcs.out]; rfl) Hall.out]
  go_upto_region 5 with fail
  have hws : wa + 2 ≤ w5.heap.size := by
    have h1 := HS1.out
    have h2 := HK4.out.size
    have h3 := k5.size
    omega
  have k14 : Kept w.heap.size w.heap.size w w5 := by
    have h1 := HS1.out
    have h2 := HWA.out
    have h3 := HK4.out.size
    rw [← h2]
    exact (HK1.out.trans (HK4.out.mono (by omega) (fun k hk _ => by omega))).trans (k5.mono (by omega) (fun k hk _ => by omega))
  have hP5 := (k5.block wa (by have := HK4.out.size; have := HS1.out; omega) (by have := HK4.out.size; have := HS1.out; omega)).trans HP4.out
  have hR5 := (k5.block (wa + 1) (by have := HK4.out.size; have := HS1.out; omega) (by have := HK4.out.size; have := HS1.out; omega)).trans HR4.out
  have hP6 : (w5.alloc (.cells (bcells S).toArray 25)).heap[wa]? = some (.cells pc 45 (0, 0)) := (Below.heap_alloc _ _ _ (by omega)).trans hP5
  have hR6 : (w5.alloc (.cells (bcells S).toArray 25)).heap[wa + 1]? = some (.cells zeros32 25 (0, 0)) := (Below.heap_alloc _ _ _ (by omega)).trans hR5
  have hS6 : (w5.alloc (.cells (bcells S).toArray 25)).heap[w5.heap.size]? = some (.cells (bcells S).toArray 25 (0, 0)) := heap_new _ _
  have k6 : Kept w.heap.size w.heap.size w (w5.alloc (.cells (bcells S).toArray 25)) := k14.alloc (by have := HWA.out; omega) _
  have s6 : (w5.alloc (.cells (bcells S).toArray 25)).heap.size = w5.heap.size + 1 := by simp
  generalize w5.alloc (.cells (bcells S).toArray 25) = w6 at hP6 hR6 hS6 k6 s6 ⊢
  obtain ⟨wc, hwc⟩ : ∃ wc, wc = w5.heap.size := ⟨_, rfl⟩
  rw [← hwc] at hS6 s6 hws ⊢
  clear k14 hP5 hR5 hwc k5 Hsum Hr3 Hr4 HK4 HP4 HR4 HP2 HO2 HB2 Hm HK2
  refine wp_region_still_tail 5 (by kernel_rfl) (by kernel_rfl) ?_
  simp only [List.take_succ_cons, List.take_zero, List.drop_succ_cons, List.drop_zero]
  generalize hw9 : ({ heap := w6.heap, tape := w6.tape, drawn := w6.drawn + 1, os := w6.os, output := w6.output } : World) = wd
  have c1 := Hcv2.out wd (by rw [← hw9]; exact hP6)
  have c2 : (convert 38 9 (.slice (some ⟨wc, 0, none⟩) 32 32)).run Try.prog wd = .ok (.string (str S)) wd := by
    have := conv_row wd wc S 25 (0, 0) (by rw [← hw9]; exact hS6) 0 32 S (by rw [List.drop_zero, List.take_length])
    rwa [HS32.out] at this
  have hRd : wd.heap[wa + 1]? = some (.cells zeros32 25 (0, 0)) := by rw [← hw9]; exact hR6
  have kd : Kept w.heap.size w.heap.size w wd := by rw [← hw9]; exact k6.drew
  have sd : wd.heap.size = wc + 1 := by rw [← hw9]; exact s6
  obtain ⟨s3, hs3⟩ : ∃ s3, s3 = str S := ⟨_, rfl⟩
  rw [← hs3] at c2
  clear hw9 hP6 hR6 hS6 k6 s6
  have hj2 : joined [s2, s3] [s2, s3].length = Mc.put 92 f ++ S := by
    rw [joined_cons, show joined [s3] [s3].length = s3.data.toList by simp [joined], Hs2.out, hs3]
  have hsum := sum_calls [s2, s3] (some ⟨wd.heap.size, 0, none⟩) 2 wd.heap.size 0 (wd.alloc (.cells #[.string s2, .string s3] 9)) (Lib.hid (by show 2 < _; decide)) (Lib.hid (by rw [hj2, List.length_append, Mc.put_length, hf.out, HS32.out]; decide)) (fun j hj => by
    refine ⟨rfl, by simp, ?_⟩
    have hj' : j = 0 ∨ j = 1 := by simp at hj; omega
    rcases hj' with rfl | rfl
    · exact World.cell?_alloc_new wd _ _ 0
    · exact World.cell?_alloc_new wd _ _ 1)
  rw [hj2] at hsum
  generalize hU : Sm.sum (Mc.put 92 f ++ S) = U at hsum
  have hU32 : U.length = 32 := by rw [← hU]; exact sum_length _
  have hcs : (bcells U).toArray.size = 32 := by rw [List.size_toArray, bcells_length, hU32]
  have hall := bcells_all U
  have hUF : (bcells (Mc.under f (joined parts parts.length))).toArray = (bcells U).toArray := by rw [Mc.under, HS.out, hU]
  generalize (bcells U).toArray = cu at hsum hcs hall hUF
  have Hsum := Lib.hid hsum
  have HUF := Lib.hid hUF
  have Hall2 := Lib.hid hall
  have Hcs2 := Lib.hid hcs
  have HRd := Lib.hid hRd
  have Hkd := Lib.hid kd
  have Hsd := Lib.hid sd
  clear hsum hj2 hU hUF hall hcs hRd kd sd hs3
  repeat still_step
  refine wpStill_nil ?_
  go_wp2_with fail
  refine Hsum.out.mono ?_
  rintro e w8 ⟨rfl, k8⟩
  have hR8 := (k8.block (wa + 1) (by have := Hsd.out; simp; omega) (by have := Hsd.out; simp; omega)).trans ((Below.heap_alloc _ _ _ (by have := Hsd.out; omega)).trans HRd.out)
  have hk8 : Kept w.heap.size w.heap.size w w8 := by
    have h1 := HWA.out
    have h2 := Hsd.out
    exact (Hkd.out.alloc (by omega) _).trans (k8.mono (by simp; omega) (fun k hk _ => by simp; omega))
  have hz32 := zeros32_size
  generalize zeros32 = z at hR8 hz32
  have hcu := Hcs2.out
  go_wp2_with (with_reducible refine wpList_store_row rfl 25 _ _ rfl (wa + 1) cu rfl rfl 25 _ hR8 (by rw [shaInfo30, hcu]) (by rw [hz32, hcu]) Hall2.out ?_)
  obtain ⟨t1, t2⟩ : Kept w.heap.size w.heap.size w (w8.setRow (wa + 1) cu) ∧ (w8.setRow (wa + 1) cu).heap[wa + 1]? = some (.cells cu 25 (0, 0)) :=
    ⟨hk8.trans ⟨rfl, rfl, rfl, by simp [World.setRow], fun k hk _ => setRow_other w8 (wa + 1) k cu (by have := HWA.out; omega)⟩, setRow_heap w8 (wa + 1) z cu _ _ hR8⟩
  refine bodyPost_ret (results_cell_row rfl _ _ (wa + 1) 25 cu (0, 0) _ rfl t2 Try.underlying25 rfl (by rw [shaInfo30, hcu])) rfl ?_
  exact ⟨by rw [HUF.out], t1⟩

end Go.Proofs.Ytdhebdahfnilkaa
