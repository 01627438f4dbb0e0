/-
  The walk of the statement BookRules: whatever follows was there, or is what a fact says of what follows; and no fact says more.
-/
import Derived.Test.YtmcnmcnmcpfmiaaBookFollowsLaw
import Derived.Test.YtmcnmcnmcpfmiaaGA

namespace Go.Proofs.Ytmcnmcnmcpfmiaa
open Go.RowKit Go.Lib

def allB (M l : List (List UInt8)) : Bool := l.all (inList M)
def sayB (s a : Bool) (l : List (List UInt8)) (h : List UInt8) : Bool := s || (a && inList l h)
def saidB (F M : List (List UInt8)) (h : List UInt8) (L : List (List (List UInt8) × List (List UInt8))) : Bool := inList F h || L.any fun f => allB M f.1 && inList f.2 h
theorem allB_more (M l : List (List UInt8)) (k : Nat) (h : k < l.length) : allB M (l.take (k + 1)) = (allB M (l.take k) && inList M l[k]) := all_take _ _ _ h
theorem inList_more (l : List (List UInt8)) (k : Nat) (h : k < l.length) (x : List UInt8) : inList (l.take (k + 1)) x = (inList (l.take k) x || (l[k] == x)) := by
  rw [List.take_succ_eq_append_getElem h]
  unfold inList
  rw [List.contains_eq_any_beq, List.contains_eq_any_beq, List.any_append, List.any_cons, List.any_nil, Bool.or_false, Bool.beq_comm]
theorem sayB_more (s a : Bool) (l : List (List UInt8)) (k : Nat) (h : k < l.length) (x : List UInt8) : sayB s a (l.take (k + 1)) x = (sayB s a (l.take k) x || (a && (l[k] == x))) := by
  unfold sayB
  rw [inList_more l k h x]
  cases s <;> cases a <;> simp
theorem saidB_more (F M : List (List UInt8)) (h : List UInt8) (L : List (List (List UInt8) × List (List UInt8))) (k : Nat) (hk : k < L.length) : saidB F M h (L.take (k + 1)) = sayB (saidB F M h (L.take k)) (allB M L[k].1) L[k].2 h := by
  unfold saidB sayB
  rw [List.take_succ_eq_append_getElem hk, List.any_append, List.any_cons, List.any_nil, Bool.or_false, Bool.or_assoc]
theorem sayB_nil (s a : Bool) (h : List UInt8) : sayB s a [] h = s := by unfold sayB inList; cases s <;> cases a <;> rfl
/-- What was given and says something is noted. -/
theorem alikeB_eq {L M : List (List UInt8)} (h : alikeB L M = true) : L = M := by unfold alikeB at h; exact eq_of_beq h
theorem bknote_has (fs : List (List (List UInt8) × List (List UInt8))) (f : List (List UInt8) × List (List UInt8)) (h : f.2.length ≠ 0) : f ∈ Bk.note fs f := by
  unfold Bk.note
  rw [if_neg h]
  split
  · rename_i hn
    unfold Bk.noted at hn
    obtain ⟨g, hg, h2⟩ := List.any_eq_true.1 hn
    rw [Bool.and_eq_true] at h2
    have e : g = f := Prod.ext (alikeB_eq h2.1) (alikeB_eq h2.2)
    rwa [e] at hg
  · simp
theorem bknote_keeps (fs : List (List (List UInt8) × List (List UInt8))) (f g : List (List UInt8) × List (List UInt8)) (h : g ∈ fs) : g ∈ Bk.note fs f := by
  unfold Bk.note
  split
  · exact h
  · split
    · exact h
    · simp [h]
theorem notes_has (L : List (List (List UInt8) × List (List UInt8))) : ∀ k, k ≤ L.length → ∀ i (hi : i < L.length), i < k → L[i].2.length ≠ 0 → L[i] ∈ notes (L.take k)
  | 0, _, i, _, h, _ => absurd h (Nat.not_lt_zero _)
  | k + 1, hk, i, hi, h, hz => by
    rw [notes_more L k (by omega)]
    rcases Nat.lt_or_ge i k with h1 | h1
    · exact bknote_keeps _ _ _ (notes_has L k (by omega) i hi h1 hz)
    · obtain rfl : i = k := by omega
      exact bknote_has _ _ hz
theorem notes_all {L : List (List (List UInt8) × List (List UInt8))} {i : Nat} (hi : i < L.length) (hz : L[i].2.length ≠ 0) : L[i] ∈ notes L := by
  have := notes_has L L.length (Nat.le_refl _) i hi hi hz
  rwa [List.take_of_length_le (Nat.le_refl _)] at this
theorem notes_sub {L : List (List (List UInt8) × List (List UInt8))} {g : List (List UInt8) × List (List UInt8)} (h : g ∈ notes L) : g ∈ L := by
  have := notes_mem L L.length (Nat.le_refl _)
  rw [List.take_of_length_le (Nat.le_refl _)] at this
  exact this g h
/-- What follows was there, or a fact says it. -/
theorem saidB_cl {F M : List (List UInt8)} {h : List UInt8} {L : List (List (List UInt8) × List (List UInt8))} (hM : Bk.Is (notes L) F M) (hc : Bk.Cl (notes L) F h) : saidB F M h L = true := by
  unfold saidB
  rw [Bool.or_eq_true]
  cases hc with
  | base x hx => exact .inl ((inList_mem F h).2 hx)
  | fact f o hf hi ho =>
    refine .inr (List.any_eq_true.2 ⟨f, notes_sub hf, ?_⟩)
    rw [Bool.and_eq_true]
    refine ⟨?_, (inList_mem _ _).2 ho⟩
    unfold allB
    rw [List.all_eq_true]
    intro x hx
    exact (inList_mem M x).2 ((hM.mem x).2 (hi x hx))
/-- No fact says more. -/
theorem is_shut {F M : List (List UInt8)} {L : List (List (List UInt8) × List (List UInt8))} (hM : Bk.Is (notes L) F M) {i : Nat} (hi : i < L.length) {j : Nat} (hj : j < L[i].2.length) (ha : allB M L[i].1 = true) : inList M L[i].2[j] = true := by
  have hz : L[i].2.length ≠ 0 := by omega
  refine (inList_mem M _).2 ((hM.mem _).2 (.fact L[i] _ (notes_all hi hz) (fun x hx => ?_) (List.getElem_mem hj)))
  unfold allB at ha
  exact (hM.mem x).1 ((inList_mem M x).1 (List.all_eq_true.1 ha x hx))

set_option maxRecDepth 100000 in
set_option maxHeartbeats 6400000 in
theorem bookrules_walk (L : List (List (List UInt8) × List (List UInt8))) (v : Value) (F : List (List UInt8)) (u : Value) (h : List UInt8) (hh : h.length = 32) (w : World) (hL : FsW w v L) (hF : Hs w u F) : Calls Try.prog 5 #[v, u, .agg (bcells h).toArray] w fun e w' => e = .returned (.bool true) ∧ Kept w.heap.size w.heap.size w w' := by
  obtain ⟨zp1, uad, ug, uo, uc, rfl, zp2⟩ := id hF
  clear zp1 zp2
  obtain ⟨zad, zg, zo, zc, rfl, zp2⟩ := id hL
  clear zp2
  have haw := awake_calls
  have HAW := Lib.hid haw
  obtain ⟨D, hD⟩ : ∃ D, D = (bcells h).toArray := ⟨_, rfl⟩
  have hD32 : D.size = 32 := by rw [hD, List.size_toArray, bcells_length, hh]
  rw [← hD]
  have HDD := Lib.hid hD
  clear haw hD
  go_enter Try.func5, Try.ntmps5
  go_upto_region 1 with fail
  have hX : (w.alloc (.cells D 39)).heap[w.heap.size]? = some (.cells D 39 (0, 0)) := heap_new _ _
  have k0 : Kept w.heap.size w.heap.size w (w.alloc (.cells D 39)) := (Kept.refl _ _ _).alloc (Nat.le_refl _) _
  generalize w.alloc (.cells D 39) = w0 at hX k0 ⊢
  obtain ⟨wa, hwa⟩ : ∃ wa, wa = w.heap.size := ⟨_, rfl⟩
  rw [← hwa] at hX ⊢
  have hL0 := hL.kept k0
  have hF0 := hF.kept k0
  have hout : ∀ w', Kept w0.heap.size w0.heap.size w0 w' → Kept w.heap.size w.heap.size w w' := fun w' kk => k0.trans (kk.mono k0.size (fun i hi _ => by have := k0.size; omega))
  have hfw : ∀ w', Kept w0.heap.size w0.heap.size w0 w' → Calls Try.prog 17 #[.slice zad L.length zc] w' (FewPost L w') := fun w' k => few_calls L _ w' (hL0.kept k).fs
  have HFW := Lib.hid hfw
  have HL := Lib.hid hL0
  have HF := Lib.hid hF0
  have HOUT := Lib.hid hout
  have HX := Lib.hid hX
  clear hfw hL hF hL0 hF0 hout hX k0 hwa
  go_wp2_with fail
  refine (HAW.out _).mono ?_
  rintro e w1 ⟨rfl, k1⟩
  go_wp2_with fail
  refine (HFW.out w1 k1).mono ?_
  rintro e w2 ⟨b, rfl, hb, rfl⟩
  cases b with
  | false =>
    go_wp2_with fail
    refine (HAW.out _).mono ?_
    rintro e w3 ⟨rfl, k3⟩
    go_wp2
    go_ret
    exact ⟨rfl, HOUT.out _ (k1.trans (k3.mono k1.size (fun i hi _ => by have := k1.size; omega)))⟩
  | true =>
    have hfew := hb rfl
    clear hb
    by_cases hz : 60 < F.length
    · have hd : decide ((60 : Int) < (F.length : Int)) = true := decide_eq_true (by omega)
      go_wp2_with fail
      refine (HAW.out _).mono ?_
      rintro e w3 ⟨rfl, k3⟩
      go_wp2
      go_ret
      exact ⟨rfl, HOUT.out _ (k1.trans (k3.mono k1.size (fun i hi _ => by have := k1.size; omega)))⟩
    have hd : decide ((60 : Int) < (F.length : Int)) = false := decide_eq_false (by omega)
    obtain ⟨hb1, hb2, hb3⟩ := few_notes hfew
    have hnt := noted_calls L _ w2 (HL.out.kept k1) hfew
    have HNT := Lib.hid hnt
    have HFE := Lib.hid hfew
    have HB3 := Lib.hid hb3
    have HK1 := Lib.hid k1
    clear hnt hfew hb3 k1
    go_wp2_with fail
    refine HNT.out.mono ?_
    rintro e w3 ⟨bb, m, rfl, ⟨n, hn, hB⟩, hO, k3⟩
    have hn6 : n < 1000000 := by have := HFE.out.1; omega
    have hK3 : Kept w0.heap.size w0.heap.size w0 w3 := HK1.out.trans (k3.mono HK1.out.size (fun i hi _ => by have := HK1.out.size; omega))
    have hF60 : F.length ≤ 60 := by omega
    have hL60 := HFE.out.1
    have hfo : Calls Try.prog 21 #[.pointer (some ⟨bb, 0, none⟩), .slice uad F.length uc] w3 fun e w' => ∃ r M, e = .returned r ∧ Hs w' r M ∧ Bk.Is (notes L) F M ∧ Kept w3.heap.size w3.heap.size w3 w' := by
      obtain ⟨S, hB⟩ := hB
      exact follows_book _ _ _ _ _ _ F _ _ hB (HF.out.kept hK3) (by omega) hn6 (by omega) HB3.out
    have hal : ∀ w', Kept w3.heap.size w3.heap.size w3 w' → Calls Try.prog 23 #[.pointer (some ⟨bb, 0, none⟩), .agg D, .slice uad F.length uc] w' fun e w2 => ∃ b : Bool, e = .returned (.bool b) ∧ (b = true ↔ Bk.Cl (notes L) F h) ∧ Kept w'.heap.size w'.heap.size w' w2 := fun w' kk => by
      obtain ⟨S, hB⟩ := hB
      rw [HDD.out]
      exact knows_of _ (notes L) F h hh _ w' (fun w2 k2 => all_calls _ _ _ _ _ _ _ _ _ ((hB.kept kk).kept k2) (((HF.out.kept hK3).kept kk).kept k2) (by omega) hn6 (by omega) HB3.out)
    have HFO := Lib.hid hfo
    have HKN := Lib.hid hal
    have HK3 := Lib.hid hK3
    clear hfo hal hK3 hB hO k3 hz hn hn6 HNT HK1
    go_wp2_with fail
    refine HFO.out.mono ?_
    rintro e w4 ⟨r, M, rfl, hM, hI, k4⟩
    have hMl := is_length hI
    have hM6 : M.length < 1000000 := by omega
    have hpm := plain_calls M r w4 hM (by omega)
    have HPM := Lib.hid hpm
    have HI := Lib.hid hI
    clear hpm hI hMl hM
    go_wp2_with fail
    refine HPM.out.mono ?_
    rintro e w5 ⟨pm, rfl, o5, k5⟩
    have K5 := k4.trans (k5.mono k4.size (fun i hi _ => by have := k4.size; omega))
    have K05 : Kept w0.heap.size w0.heap.size w0 w5 := HK3.out.trans (K5.mono HK3.out.size (fun i hi _ => by have := HK3.out.size; omega))
    have hkn : ∀ w', Kept w5.heap.size w5.heap.size w5 w' → Calls Try.prog 23 #[.pointer (some ⟨bb, 0, none⟩), .agg D, .slice uad F.length uc] w' fun e w2 => ∃ b : Bool, e = .returned (.bool b) ∧ (b = true ↔ Bk.Cl (notes L) F h) ∧ Kept w'.heap.size w'.heap.size w' w2 := fun w' kk => HKN.out w' (K5.trans (kk.mono K5.size (fun i hi _ => by have := K5.size; omega)))
    have hhas : ∀ w', Kept w5.heap.size w5.heap.size w5 w' → ∀ x : List UInt8, x.length = 32 → Calls Try.prog 25 #[pm, .agg (bcells x).toArray] w' fun e w2 => e = .returned (.bool (inList M x)) ∧ Kept w'.heap.size w'.heap.size w' w2 := fun w' kk x hx => has_calls M x hx pm w' (o5.hs.kept kk) (by omega)
    have hpf : ∀ w', Kept w5.heap.size w5.heap.size w5 w' → Calls Try.prog 20 #[.slice uad F.length uc] w' fun e w2 => ∃ u, e = .returned u ∧ Own w2 w'.heap.size u F ∧ Kept w'.heap.size w'.heap.size w' w2 := fun w' kk => plain_calls F _ w' ((HF.out.kept K05).kept kk) (by omega)
    have hhf : ∀ (w' : World) (q : Value), Hs w' q F → Calls Try.prog 25 #[q, .agg D] w' fun e w2 => e = .returned (.bool (inList F h)) ∧ Kept w'.heap.size w'.heap.size w' w2 := fun w' q hq => by
      rw [HDD.out]
      exact has_calls F h hh q w' hq (by omega)
    have hout5 : ∀ w', Kept w5.heap.size w5.heap.size w5 w' → Kept w.heap.size w.heap.size w w' := fun w' kk => HOUT.out w' (K05.trans (kk.mono K05.size (fun i hi _ => by have := K05.size; omega)))
    have hX5 : ∀ w', Kept w5.heap.size w5.heap.size w5 w' → w'.heap[wa]? = some (.cells D 39 (0, 0)) := fun w' kk => by
      have h5 := (K05.block _ (lt_of_block HX.out) (Nat.ne_of_lt (lt_of_block HX.out))).trans HX.out
      exact (kk.block _ (lt_of_block h5) (Nat.ne_of_lt (lt_of_block h5))).trans h5
    have hld : ∀ w', Kept w5.heap.size w5.heap.size w5 w' → (loadVar 39 ⟨wa, 0, none⟩).run Try.prog w' = .ok (.agg D) w' := fun w' kk => run_loadVar_row w' wa 39 39 D (0, 0) _ (hX5 w' kk) Try.underlying39 rfl (by rw [hD32]; kernel_rfl)
    have hF5 := HF.out.kept K05
    have hL5 := HL.out.kept K05
    obtain ⟨hF32, zf1, zf2, zf3, zf4, zf5, hFc⟩ := hF5
    cases zf5
    obtain ⟨zl1, zl2, zl3, zl4, zl5, hLc⟩ := hL5
    cases zl5
    have hFc2 : ∀ w', Kept w5.heap.size w5.heap.size w5 w' → ∀ i (hi : i < F.length), uad = some ⟨zf2, zf3, none⟩ ∧ F[i].length = 32 ∧ w'.rangeAt zf2 (zf3 + i * 32) (bcells F[i]) := fun w' kk i hi => by
      obtain ⟨a1, a2, a3⟩ := hFc i hi
      exact ⟨a1, hF32 _ (List.getElem_mem hi), rangeAt_kept kk a3 a2 (Nat.ne_of_lt a2)⟩
    have hin : ∀ i (hi : i < F.length), inList M F[i] = true := fun i hi => (inList_mem M _).2 ((HI.out.mem _).2 (.base _ (List.getElem_mem hi)))
    have HKN5 := Lib.hid hkn
    have HHAS := Lib.hid hhas
    have HPF := Lib.hid hpf
    have HHF := Lib.hid hhf
    have HOUT5 := Lib.hid hout5
    have HX5 := Lib.hid hX5
    have HLD := Lib.hid hld
    have HFC := Lib.hid hFc2
    have HLC := Lib.hid hLc
    have HIN := Lib.hid hin
    have HD32 := Lib.hid hD32
    clear hkn hhas hpf hhf hout5 hX5 hld hFc hFc2 hLc hin K05 K5 k4 k5 o5 hF32 HPM HFO HK3 HKN HFW HL HF HOUT HX hD32 HAW
    have hinfo : (Try.prog.info? 39).map (·.size) = some 32 := by kernel_rfl
    have HINFO := Lib.hid hinfo
    clear hinfo
    have gd := macGuard25
    go_wp2_with fail
    go_loopw [11] (fun i w9 => ∃ k : Nat, k ≤ F.length ∧ i = .int .i64 (k : Int) ∧ Hid (Kept w5.heap.size w5.heap.size w5 w9)) (fun i _ => F.length - (RowKit.intOf i).toNat)
    case atStart => exact ⟨0, by omega, rfl, Lib.hid (Kept.refl _ _ _)⟩
    case round =>
      obtain ⟨k, hk, rfl, hK⟩ := hrel
      by_cases hlt : k < F.length
      · obtain ⟨rfl, hx32, hr⟩ := HFC.out wr hK.out k hlt
        have hln : (k : Int) < (F.length : Int) := by omega
        have hk0 : ¬ (k : Int) < 0 := by omega
        have hhk := HHAS.out wr hK.out F[k] hx32
        rw [HIN.out k hlt] at hhk
        have hxl : (Try.prog.info? 39).map (·.size) = some (bcells F[k]).length := by rw [HINFO.out, bcells_length, hx32]
        generalize F[k] = x at hr hhk hxl
        have HHK := Lib.hid hhk
        have HR := Lib.hid hr
        have HXL := Lib.hid hxl
        clear hhk hr hxl hx32
        go_wp2_with (first
          | (with_reducible refine wpList_load_mid rfl 39 _ rfl zf2 (zf3 + k * 32) rfl (bcells x) _ HR.out Try.underlying39 rfl HXL.out ?_)
          | (go_at_call 25; refine HHK.out.mono ?_; rintro e w6 ⟨rfl, k6⟩))
        exact ⟨⟨k + 1, by omega, by rw [Int.natCast_add]; rfl, Lib.hid (hK.out.trans (k6.mono hK.out.size (fun i hi _ => by have := hK.out.size; omega)))⟩, by simp only [RowKit.intOf]; omega⟩
      · obtain rfl : k = F.length := by omega
        have hd3 : decide ((F.length : Int) < (F.length : Int)) = false := decide_eq_false (by omega)
        have hK0 := hK
        go_upto_region 10 with fail
        refine wp_region_noPanic ?_
        refine wp_region_held_drew (S := fun w' => Kept w5.heap.size w5.heap.size w5 w') (by kernel_rfl) (hK.out.drew) (fun hH => ?_)
        refine wpAnyH_take_at (i := 0) 53 (.slice uad F.length uc) rfl rfl (by kernel_rfl) (by kernel_rfl) (by kernel_rfl) (fun _ _ _ h => h) (.inl ⟨by rfl, fun w9 _ => by go_simp⟩) hH ?_
        simp only [List.setIfInBounds_toArray, List.set_cons_zero, List.set_cons_succ]
        refine wpAnyH_take_at (i := 2) 55 (.agg D) rfl rfl (by kernel_rfl) (by kernel_rfl) (by kernel_rfl) (fun _ _ _ h => h) (yieldsIf_load_known (by rfl) 39 _ rfl (wa) (0) rfl (.agg D) (fun w' hw' => HLD.out w' hw')) hH ?_
        simp only [List.setIfInBounds_toArray, List.set_cons_zero, List.set_cons_succ]
        refine wpAnyH_ready (rs := [1]) (by kernel_rfl) (by simp) ?_
        refine AllReadyH.cons rfl (fun K hK => ?_) AllReadyH.nil
        rw [if_pos (by rfl)]
        go_simp
        go_wp2_with (go_at_call 20; refine (HPF.out _ hK0.out.drew).mono ?_; rintro e w6 ⟨pf, rfl, o6, k6⟩)
        have K6 : Kept w5.heap.size w5.heap.size w5 w6 := hK0.out.drew.trans (k6.mono hK0.out.drew.size (fun i hi _ => by have := hK0.out.drew.size; omega))
        refine hK.out _ _ (K6) (fun hH => ?_)
        clear hK K
        refine wpAnyH_ready (rs := [3]) (by kernel_rfl) (by simp) ?_
        refine AllReadyH.cons rfl (fun K hK => ?_) AllReadyH.nil
        rw [if_pos (by rfl)]
        go_simp
        go_wp2_with (go_at_call 25; refine (HHF.out w6 pf o6.hs).mono ?_; rintro e w7 ⟨rfl, k7⟩)
        have K7 : Kept w5.heap.size w5.heap.size w5 w7 := K6.trans (k7.mono K6.size (fun i hi _ => by have := K6.size; omega))
        refine hK.out _ _ (K7) (fun hH => ?_)
        clear hK K
        refine wpAnyH_take_at (i := 4) 12 (.bool (inList F h)) rfl rfl (by kernel_rfl) (by kernel_rfl) (by kernel_rfl) (fun _ _ _ h => h) (.inl ⟨by rfl, fun w9 _ => by go_simp⟩) hH ?_
        simp only [List.setIfInBounds_toArray, List.set_cons_zero, List.set_cons_succ]
        refine wpAnyH_done (by kernel_rfl) ?_ _
        refine NoPanic.normal ?_
        have HK7 := Lib.hid K7
        clear K7 K6 k6 k7 o6
        have hsay : inList F h = saidB F M h (L.take 0) := by unfold saidB; rw [List.take_zero, List.any_nil, Bool.or_false]
        generalize inList F h = s0 at hsay ⊢
        have HSAY := Lib.hid hsay
        clear hsay
        go_wp2_with fail
        go_loopw [12, 13] (fun s i w9 => ∃ k : Nat, k ≤ L.length ∧ i = .int .i64 (k : Int) ∧ (∃ sb : Bool, s = .bool sb ∧ Hid (sb = saidB F M h (L.take k))) ∧ Hid (Kept w5.heap.size w5.heap.size w5 w9)) (fun _ i _ => L.length - (RowKit.intOf i).toNat)
        case atStart => exact ⟨0, by omega, rfl, ⟨s0, rfl, HSAY⟩, HK7⟩
        case round =>
          as_aux_lemma =>
            obtain ⟨k, hk, rfl, ⟨sb, rfl, hsb⟩, hK⟩ := hrel
            by_cases hlt : k < L.length
            · obtain ⟨rfl, hg, a, b, ca, cb, ha, hb, wa', wb'⟩ := HLC.out k hlt
              clear wa' wb'
              obtain ⟨i32, iad, ig, io, ic, rfl, icell⟩ := ha
              obtain ⟨o32, oad, og, oo, oc, rfl, ocell⟩ := hb
              have hln : (k : Int) < (L.length : Int) := by omega
              have hk0 : ¬ (k : Int) < 0 := by omega
              have hsh : ∀ j (hj : j < L[k].2.length), allB M L[k].1 = true → inList M L[k].2[j] = true := fun j hj ha => is_shut HI.out hlt hj ha
              have hmore := saidB_more F M h L k hlt
              have hic : ∀ w', Kept w5.heap.size w5.heap.size w5 w' → ∀ j (hj : j < L[k].1.length), iad = some ⟨ig, io, none⟩ ∧ L[k].1[j].length = 32 ∧ w'.rangeAt ig (io + j * 32) (bcells L[k].1[j]) := fun w' kk j hj => by
                obtain ⟨a1, a2, a3⟩ := icell j hj
                exact ⟨a1, i32 _ (List.getElem_mem hj), rangeAt_kept kk a3 a2 (Nat.ne_of_lt a2)⟩
              have hoc : ∀ w', Kept w5.heap.size w5.heap.size w5 w' → ∀ j (hj : j < L[k].2.length), oad = some ⟨og, oo, none⟩ ∧ L[k].2[j].length = 32 ∧ w'.rangeAt og (oo + j * 32) (bcells L[k].2[j]) := fun w' kk j hj => by
                obtain ⟨a1, a2, a3⟩ := ocell j hj
                exact ⟨a1, o32 _ (List.getElem_mem hj), rangeAt_kept kk a3 a2 (Nat.ne_of_lt a2)⟩
              have hca : ∀ w', Kept w5.heap.size w5.heap.size w5 w' → w'.cell? ⟨zl2, zl3 + k * 2, none⟩ = some (.slice iad L[k].1.length ic) := fun w' kk => (kk.cell (p := ⟨zl2, zl3 + k * 2, none⟩) hg (Nat.ne_of_lt hg)).trans ca
              have hcb : ∀ w', Kept w5.heap.size w5.heap.size w5 w' → w'.cell? ⟨zl2, zl3 + k * 2 + 1, none⟩ = some (.slice oad L[k].2.length oc) := fun w' kk => (kk.cell (p := ⟨zl2, zl3 + k * 2 + 1, none⟩) hg (Nat.ne_of_lt hg)).trans cb
              have hfz := HFE.out.2 L[k] (List.getElem_mem hlt)
              obtain ⟨hfz1, hfz2⟩ := hfz
              clear i32 o32 icell ocell ca cb
              generalize L[k] = f at hsh hmore hic hoc hca hcb hfz1 hfz2
              rw [← hsb.out] at hmore
              have HSH := Lib.hid hsh
              have HMORE := Lib.hid hmore
              have HIC := Lib.hid hic
              have HOC := Lib.hid hoc
              have HCA := Lib.hid hca
              have HCB := Lib.hid hcb
              have hsb0 := sayB_nil sb (allB M f.1) h
              have HSB0 := Lib.hid hsb0
              clear hsh hmore hic hoc hca hcb hsb0 hsb
              go_wp2_with fail
              go_loopw [14, 15] (fun q i w9 => ∃ j : Nat, j ≤ f.1.length ∧ i = .int .i64 (j : Int) ∧ (∃ qb : Bool, q = .bool qb ∧ Hid (qb = allB M (f.1.take j))) ∧ Hid (Kept w5.heap.size w5.heap.size w5 w9)) (fun _ i _ => f.1.length - (RowKit.intOf i).toNat)
              case atStart => exact ⟨0, by omega, rfl, ⟨true, rfl, Lib.hid (by rw [List.take_zero]; rfl)⟩, hK⟩
              case round =>
                as_aux_lemma =>
                  obtain ⟨j, hj, rfl, ⟨qb, rfl, hqb⟩, hK⟩ := hrel
                  have cA := HCA.out wr hK.out
                  by_cases hjl : j < f.1.length
                  · obtain ⟨rfl, hx32, hr⟩ := HIC.out wr hK.out j hjl
                    have hjn : (j : Int) < (f.1.length : Int) := by omega
                    have hj0 : ¬ (j : Int) < 0 := by omega
                    have hmo := allB_more M f.1 j hjl
                    rw [← hqb.out] at hmo
                    have hhk := HHAS.out wr hK.out f.1[j] hx32
                    have hxl : (Try.prog.info? 39).map (·.size) = some (bcells f.1[j]).length := by rw [HINFO.out, bcells_length, hx32]
                    generalize f.1[j] = x at hr hhk hxl hmo
                    generalize inList M x = xb at hhk hmo
                    have HHK := Lib.hid hhk
                    have HR := Lib.hid hr
                    have HXL := Lib.hid hxl
                    have HMO := Lib.hid hmo
                    clear hhk hr hxl hx32 hmo hqb
                    cases qb with
                    | true =>
                      as_aux_lemma =>
                        go_upto_region 18 with fail
                        refine wp_region_lit ?_
                        refine @BigFrame.wpList_want _ _ _ _ _ _ _ ?hwa0 ?_
                        case hwa0 => kernel_rfl
                        intro K hK
                        go_simp
                        refine hK _ _ ?_
                        clear hK K
                        refine @BigFrame.wpList_want _ _ _ _ _ _ _ ?hwa1 ?_
                        case hwa1 => kernel_rfl
                        intro K hK
                        go_simp
                        refine hK _ _ ?_
                        clear hK K
                        refine @BigFrame.wpList_want _ _ _ _ _ _ _ ?hwb02 ?_
                        case hwb02 => kernel_rfl
                        intro K hK
                        go_simp
                        refine hK _ _ ?_
                        clear hK K
                        refine @BigFrame.wpList_want _ _ _ _ _ _ _ ?hwb03 ?_
                        case hwb03 => kernel_rfl
                        intro K hK
                        go_simp
                        refine hK _ _ ?_
                        clear hK K
                        refine @BigFrame.wpList_want _ _ _ _ _ _ _ ?hwb04 ?_
                        case hwb04 => kernel_rfl
                        intro K hK
                        go_simp
                        refine hK _ _ ?_
                        clear hK K
                        refine @BigFrame.wpList_want _ _ _ _ _ _ _ ?hwb05 ?_
                        case hwb05 => kernel_rfl
                        intro K hK
                        go_simp
                        refine hK _ _ ?_
                        clear hK K
                        refine @BigFrame.wpList_want _ _ _ _ _ _ _ ?hwb06 ?_
                        case hwb06 => kernel_rfl
                        intro K hK
                        go_simp
                        refine hK _ _ ?_
                        clear hK K
                        refine @BigFrame.wpList_want _ _ _ _ _ _ _ ?hwb07 ?_
                        case hwb07 => kernel_rfl
                        intro K hK
                        go_simp
                        refine hK _ _ ?_
                        clear hK K
                        refine @BigFrame.wpList_want _ _ _ _ _ _ _ ?hwb08 ?_
                        case hwb08 => kernel_rfl
                        intro K hK
                        go_simp
                        refine hK _ _ ?_
                        clear hK K
                        refine @BigFrame.wpList_want _ _ _ _ _ _ _ ?hwb09 ?_
                        case hwb09 => kernel_rfl
                        intro K hK
                        go_simp
                        refine hK _ _ ?_
                        clear hK K
                        refine wpList_load_at_g ?hwb10 39 _ rfl ig (io + j * 32) rfl (bcells x) _ HR.out Try.underlying39 rfl HXL.out ?_
                        case hwb10 => kernel_rfl
                        simp only [Act.put, List.setIfInBounds_toArray, List.set_cons_zero, List.set_cons_succ]
                        refine @BigFrame.wpList_want _ _ _ _ _ _ _ ?hwb11 ?_
                        case hwb11 => kernel_rfl
                        intro K hK
                        go_simp
                        go_at_call 25; refine HHK.out.mono ?_; rintro e w8 ⟨rfl, k8⟩
                        refine hK _ _ ?_
                        clear hK K
                        refine @BigFrame.wpList_want _ _ _ _ _ _ _ ?hwb12 ?_
                        case hwb12 => kernel_rfl
                        intro K hK
                        go_simp
                        refine hK _ _ ?_
                        clear hK K
                        refine @BigFrame.wpList_want _ _ _ _ _ _ _ ?hwb13 ?_
                        case hwb13 => kernel_rfl
                        intro K hK
                        go_simp
                        refine hK _ _ ?_
                        clear hK K
                        have HK8 := Lib.hid (hK.out.trans (k8.mono hK.out.size (fun i hi _ => by have := hK.out.size; omega)))
                        clear cA k8
                        go_wp2
                        exact ⟨⟨j + 1, by omega, by rw [Int.natCast_add]; rfl, ⟨_, rfl, Lib.hid (by rw [HMO.out, Bool.true_and])⟩, HK8⟩, by simp only [RowKit.intOf]; omega⟩
                    | false =>
                      as_aux_lemma =>
                        go_upto_region 18 with fail
                        refine wp_region_lit ?_
                        refine @BigFrame.wpList_want _ _ _ _ _ _ _ ?hwc00 ?_
                        case hwc00 => kernel_rfl
                        intro K hK
                        go_simp
                        refine hK _ _ ?_
                        clear hK K
                        refine @BigFrame.wpList_want _ _ _ _ _ _ _ ?hwc01 ?_
                        case hwc01 => kernel_rfl
                        intro K hK
                        go_simp
                        refine hK _ _ ?_
                        clear hK K
                        refine @wpList_skip _ _ _ _ _ _ _ ?hwc02 ?_
                        case hwc02 => kernel_rfl
                        simp only [Act.put, List.setIfInBounds_toArray, List.set_cons_zero, List.set_cons_succ]
                        refine @wpList_skip _ _ _ _ _ _ _ ?hwc03 ?_
                        case hwc03 => kernel_rfl
                        simp only [Act.put, List.setIfInBounds_toArray, List.set_cons_zero, List.set_cons_succ]
                        refine @wpList_skip _ _ _ _ _ _ _ ?hwc04 ?_
                        case hwc04 => kernel_rfl
                        simp only [Act.put, List.setIfInBounds_toArray, List.set_cons_zero, List.set_cons_succ]
                        refine @wpList_skip _ _ _ _ _ _ _ ?hwc05 ?_
                        case hwc05 => kernel_rfl
                        simp only [Act.put, List.setIfInBounds_toArray, List.set_cons_zero, List.set_cons_succ]
                        refine @wpList_skip _ _ _ _ _ _ _ ?hwc06 ?_
                        case hwc06 => kernel_rfl
                        simp only [Act.put, List.setIfInBounds_toArray, List.set_cons_zero, List.set_cons_succ]
                        refine @wpList_skip _ _ _ _ _ _ _ ?hwc07 ?_
                        case hwc07 => kernel_rfl
                        simp only [Act.put, List.setIfInBounds_toArray, List.set_cons_zero, List.set_cons_succ]
                        refine @wpList_skip _ _ _ _ _ _ _ ?hwc08 ?_
                        case hwc08 => kernel_rfl
                        simp only [Act.put, List.setIfInBounds_toArray, List.set_cons_zero, List.set_cons_succ]
                        refine @wpList_skip _ _ _ _ _ _ _ ?hwc09 ?_
                        case hwc09 => kernel_rfl
                        simp only [Act.put, List.setIfInBounds_toArray, List.set_cons_zero, List.set_cons_succ]
                        refine @wpList_skip _ _ _ _ _ _ _ ?hwc10 ?_
                        case hwc10 => kernel_rfl
                        simp only [Act.put, List.setIfInBounds_toArray, List.set_cons_zero, List.set_cons_succ]
                        refine @wpList_skip _ _ _ _ _ _ _ ?hwc11 ?_
                        case hwc11 => kernel_rfl
                        simp only [Act.put, List.setIfInBounds_toArray, List.set_cons_zero, List.set_cons_succ]
                        refine @BigFrame.wpList_want _ _ _ _ _ _ _ ?hwc12 ?_
                        case hwc12 => kernel_rfl
                        intro K hK
                        go_simp
                        refine hK _ _ ?_
                        clear hK K
                        refine @BigFrame.wpList_want _ _ _ _ _ _ _ ?hwc13 ?_
                        case hwc13 => kernel_rfl
                        intro K hK
                        go_simp
                        refine hK _ _ ?_
                        clear hK K
                        clear cA
                        go_wp2
                        exact ⟨⟨j + 1, by omega, by rw [Int.natCast_add]; rfl, ⟨_, rfl, Lib.hid (by rw [HMO.out, Bool.false_and])⟩, hK⟩, by simp only [RowKit.intOf]; omega⟩
                  · obtain rfl : j = f.1.length := by omega
                    have hd4 : decide ((f.1.length : Int) < (f.1.length : Int)) = false := decide_eq_false (by omega)
                    have hqa := hqb.out
                    rw [List.take_of_length_le (Nat.le_refl _)] at hqa
                    rw [← hqa] at HSH HMORE HSB0
                    clear hqb hqa
                    go_wp2_with fail
                    clear cA hd4
                    go_loopw [12, 16] (fun s i w9 => ∃ j : Nat, j ≤ f.2.length ∧ i = .int .i64 (j : Int) ∧ (∃ tb : Bool, s = .bool tb ∧ Hid (tb = sayB sb qb (f.2.take j) h)) ∧ Hid (Kept w5.heap.size w5.heap.size w5 w9)) (fun _ i _ => f.2.length - (RowKit.intOf i).toNat)
                    case atStart => exact ⟨0, by omega, rfl, ⟨sb, rfl, Lib.hid (by rw [List.take_zero]; exact HSB0.out.symm)⟩, hK⟩
                    case round =>
                      as_aux_lemma =>
                        obtain ⟨j, hj, rfl, ⟨tb, rfl, htb⟩, hK⟩ := hrel
                        have cB := HCB.out wr hK.out
                        by_cases hjl : j < f.2.length
                        · obtain ⟨rfl, hx32, hr⟩ := HOC.out wr hK.out j hjl
                          have hjn : (j : Int) < (f.2.length : Int) := by omega
                          have hj0 : ¬ (j : Int) < 0 := by omega
                          have hmo := sayB_more sb qb f.2 j hjl h
                          rw [← htb.out] at hmo
                          have hsh := HSH.out j hjl
                          have hhk := HHAS.out wr hK.out f.2[j] hx32
                          have hxl : (Try.prog.info? 39).map (·.size) = some (bcells f.2[j]).length := by rw [HINFO.out, bcells_length, hx32]
                          have heq := fun w => hash_equalIn w f.2[j] h hx32 hh
                          rw [← HDD.out] at heq
                          have hrd : ∀ w', Kept w5.heap.size w5.heap.size w5 w' → w'.rangeAt og (oo + j * 32) (bcells f.2[j]) := fun w' kk => (HOC.out w' kk j hjl).2.2
                          generalize f.2[j] = x at hr hhk hxl hmo hsh heq hrd
                          generalize (x == h) = eb at hmo heq
                          have HHK := Lib.hid hhk
                          have HR := Lib.hid hr
                          have HXL := Lib.hid hxl
                          have HMO := Lib.hid hmo
                          have HSHX := Lib.hid hsh
                          have HRD := Lib.hid hrd
                          have HEQ := Lib.hid heq
                          clear hhk hr hxl hx32 hmo htb hsh hrd heq
                          cases qb with
                          | true =>
                            as_aux_lemma =>
                              go_upto_region 22 with fail
                              refine wp_region_lit ?_
                              refine @BigFrame.wpList_want _ _ _ _ _ _ _ ?hwd0 ?_
                              case hwd0 => kernel_rfl
                              intro K hK
                              go_simp
                              refine hK _ _ ?_
                              clear hK K
                              refine @BigFrame.wpList_want _ _ _ _ _ _ _ ?hwd1 ?_
                              case hwd1 => kernel_rfl
                              intro K hK
                              go_simp
                              refine hK _ _ ?_
                              clear hK K
                              have hhk := HHK.out
                              rw [HSHX.out rfl] at hhk
                              have HHK2 := Lib.hid hhk
                              clear hhk HHK
                              refine @BigFrame.wpList_want _ _ _ _ _ _ _ ?hwe02 ?_
                              case hwe02 => kernel_rfl
                              intro K hK
                              go_simp
                              refine hK _ _ ?_
                              clear hK K
                              refine @BigFrame.wpList_want _ _ _ _ _ _ _ ?hwe03 ?_
                              case hwe03 => kernel_rfl
                              intro K hK
                              go_simp
                              refine hK _ _ ?_
                              clear hK K
                              refine @BigFrame.wpList_want _ _ _ _ _ _ _ ?hwe04 ?_
                              case hwe04 => kernel_rfl
                              intro K hK
                              go_simp
                              refine hK _ _ ?_
                              clear hK K
                              refine @BigFrame.wpList_want _ _ _ _ _ _ _ ?hwe05 ?_
                              case hwe05 => kernel_rfl
                              intro K hK
                              go_simp
                              refine hK _ _ ?_
                              clear hK K
                              refine @BigFrame.wpList_want _ _ _ _ _ _ _ ?hwe06 ?_
                              case hwe06 => kernel_rfl
                              intro K hK
                              go_simp
                              refine hK _ _ ?_
                              clear hK K
                              refine @BigFrame.wpList_want _ _ _ _ _ _ _ ?hwe07 ?_
                              case hwe07 => kernel_rfl
                              intro K hK
                              go_simp
                              refine hK _ _ ?_
                              clear hK K
                              refine @BigFrame.wpList_want _ _ _ _ _ _ _ ?hwe08 ?_
                              case hwe08 => kernel_rfl
                              intro K hK
                              go_simp
                              refine hK _ _ ?_
                              clear hK K
                              refine @BigFrame.wpList_want _ _ _ _ _ _ _ ?hwe09 ?_
                              case hwe09 => kernel_rfl
                              intro K hK
                              go_simp
                              refine hK _ _ ?_
                              clear hK K
                              refine wpList_load_at_g ?hwe10 39 _ rfl og (oo + j * 32) rfl (bcells x) _ HR.out Try.underlying39 rfl HXL.out ?_
                              case hwe10 => kernel_rfl
                              simp only [Act.put, List.setIfInBounds_toArray, List.set_cons_zero, List.set_cons_succ]
                              refine @BigFrame.wpList_want _ _ _ _ _ _ _ ?hwe11 ?_
                              case hwe11 => kernel_rfl
                              intro K hK
                              go_simp
                              go_at_call 25; refine HHK2.out.mono ?_; rintro e w8 ⟨rfl, k8⟩
                              refine hK _ _ ?_
                              clear hK K
                              refine @BigFrame.wpList_want _ _ _ _ _ _ _ ?hwe12 ?_
                              case hwe12 => kernel_rfl
                              intro K hK
                              go_simp
                              refine hK _ _ ?_
                              clear hK K
                              refine @BigFrame.wpList_want _ _ _ _ _ _ _ ?hwe13 ?_
                              case hwe13 => kernel_rfl
                              intro K hK
                              go_simp
                              refine hK _ _ ?_
                              clear hK K
                              have HK8 := Lib.hid (hK.out.trans (k8.mono hK.out.size (fun i hi _ => by have := hK.out.size; omega)))
                              clear cB k8
                              cases tb with
                              | true =>
                                as_aux_lemma =>
                                  go_upto_region 24 with fail
                                  refine wp_region_still_tail 16 (by kernel_rfl) (by kernel_rfl) ?_
                                  simp only [List.take_succ_cons, List.take_zero, List.drop_succ_cons, List.drop_zero]
                                  generalize hw9 : ({ heap := w8.heap, tape := w8.tape, drawn := w8.drawn + 1, os := w8.os, output := w8.output } : World) = wd
                                  have HKD : Hid (Kept w5.heap.size w5.heap.size w5 wd) := Lib.hid (by rw [← hw9]; exact HK8.out.drew)
                                  clear hw9
                                  refine @wpStill_want _ _ _ _ _ _ _ ?hwy1x0 ?_
                                  case hwy1x0 => kernel_rfl
                                  intro K hK
                                  go_simp
                                  refine hK _ ?_
                                  clear hK K
                                  refine @wpStill_want _ _ _ _ _ _ _ ?hwy1x1 ?_
                                  case hwy1x1 => kernel_rfl
                                  intro K hK
                                  go_simp
                                  refine hK _ ?_
                                  clear hK K
                                  refine @wpStill_skip _ _ _ _ _ _ _ ?hwy2x0 ?_
                                  case hwy2x0 => kernel_rfl
                                  simp only [Act.put, List.setIfInBounds_toArray, List.set_cons_zero, List.set_cons_succ]
                                  refine @wpStill_skip _ _ _ _ _ _ _ ?hwy2x1 ?_
                                  case hwy2x1 => kernel_rfl
                                  simp only [Act.put, List.setIfInBounds_toArray, List.set_cons_zero, List.set_cons_succ]
                                  refine @wpStill_skip _ _ _ _ _ _ _ ?hwy2x2 ?_
                                  case hwy2x2 => kernel_rfl
                                  simp only [Act.put, List.setIfInBounds_toArray, List.set_cons_zero, List.set_cons_succ]
                                  refine @wpStill_skip _ _ _ _ _ _ _ ?hwy2x3 ?_
                                  case hwy2x3 => kernel_rfl
                                  simp only [Act.put, List.setIfInBounds_toArray, List.set_cons_zero, List.set_cons_succ]
                                  refine @wpStill_skip _ _ _ _ _ _ _ ?hwy2x4 ?_
                                  case hwy2x4 => kernel_rfl
                                  simp only [Act.put, List.setIfInBounds_toArray, List.set_cons_zero, List.set_cons_succ]
                                  refine @wpStill_skip _ _ _ _ _ _ _ ?hwy2x5 ?_
                                  case hwy2x5 => kernel_rfl
                                  simp only [Act.put, List.setIfInBounds_toArray, List.set_cons_zero, List.set_cons_succ]
                                  refine @wpStill_skip _ _ _ _ _ _ _ ?hwy2x6 ?_
                                  case hwy2x6 => kernel_rfl
                                  simp only [Act.put, List.setIfInBounds_toArray, List.set_cons_zero, List.set_cons_succ]
                                  refine @wpStill_skip _ _ _ _ _ _ _ ?hwy2x7 ?_
                                  case hwy2x7 => kernel_rfl
                                  simp only [Act.put, List.setIfInBounds_toArray, List.set_cons_zero, List.set_cons_succ]
                                  refine @wpStill_skip _ _ _ _ _ _ _ ?hwy2x8 ?_
                                  case hwy2x8 => kernel_rfl
                                  simp only [Act.put, List.setIfInBounds_toArray, List.set_cons_zero, List.set_cons_succ]
                                  refine @wpStill_skip _ _ _ _ _ _ _ ?hwy2x9 ?_
                                  case hwy2x9 => kernel_rfl
                                  simp only [Act.put, List.setIfInBounds_toArray, List.set_cons_zero, List.set_cons_succ]
                                  refine @wpStill_skip _ _ _ _ _ _ _ ?hwy2x10 ?_
                                  case hwy2x10 => kernel_rfl
                                  simp only [Act.put, List.setIfInBounds_toArray, List.set_cons_zero, List.set_cons_succ]
                                  refine @wpStill_skip _ _ _ _ _ _ _ ?hwy2x11 ?_
                                  case hwy2x11 => kernel_rfl
                                  simp only [Act.put, List.setIfInBounds_toArray, List.set_cons_zero, List.set_cons_succ]
                                  refine @wpStill_skip _ _ _ _ _ _ _ ?hwy2x12 ?_
                                  case hwy2x12 => kernel_rfl
                                  simp only [Act.put, List.setIfInBounds_toArray, List.set_cons_zero, List.set_cons_succ]
                                  refine @wpStill_want _ _ _ _ _ _ _ ?hwy3x0 ?_
                                  case hwy3x0 => kernel_rfl
                                  intro K hK
                                  go_simp
                                  refine hK _ ?_
                                  clear hK K
                                  refine wpStill_nil ?_
                                  refine @BigFrame.wpList_want _ _ _ _ _ _ _ ?hwy4x0 ?_
                                  case hwy4x0 => kernel_rfl
                                  intro K hK
                                  go_simp
                                  refine hK _ _ ?_
                                  clear hK K
                                  go_wp2
                                  exact ⟨⟨j + 1, by omega, by rw [Int.natCast_add]; rfl, ⟨_, rfl, Lib.hid (by rw [HMO.out]; rfl)⟩, HKD⟩, by simp only [RowKit.intOf]; omega⟩
                              | false =>
                                as_aux_lemma =>
                                  go_upto_region 24 with fail
                                  refine wp_region_still_tail 16 (by kernel_rfl) (by kernel_rfl) ?_
                                  simp only [List.take_succ_cons, List.take_zero, List.drop_succ_cons, List.drop_zero]
                                  generalize hw9 : ({ heap := w8.heap, tape := w8.tape, drawn := w8.drawn + 1, os := w8.os, output := w8.output } : World) = wd
                                  have HKD : Hid (Kept w5.heap.size w5.heap.size w5 wd) := Lib.hid (by rw [← hw9]; exact HK8.out.drew)
                                  clear hw9
                                  have cB := HCB.out wd HKD.out
                                  have rD := HRD.out wd HKD.out
                                  have RD := Lib.hid rD
                                  have lD := HLD.out wd HKD.out
                                  have LD := Lib.hid lD
                                  clear rD lD
                                  refine @wpStill_want _ _ _ _ _ _ _ ?hwy5x0 ?_
                                  case hwy5x0 => kernel_rfl
                                  intro K hK
                                  go_simp
                                  refine hK _ ?_
                                  clear hK K
                                  refine @wpStill_want _ _ _ _ _ _ _ ?hwy5x1 ?_
                                  case hwy5x1 => kernel_rfl
                                  intro K hK
                                  go_simp
                                  refine hK _ ?_
                                  clear hK K
                                  refine @wpStill_want _ _ _ _ _ _ _ ?hwy5x2 ?_
                                  case hwy5x2 => kernel_rfl
                                  intro K hK
                                  go_simp
                                  refine hK _ ?_
                                  clear hK K
                                  refine @wpStill_want _ _ _ _ _ _ _ ?hwy5x3 ?_
                                  case hwy5x3 => kernel_rfl
                                  intro K hK
                                  go_simp
                                  refine hK _ ?_
                                  clear hK K
                                  refine @wpStill_want _ _ _ _ _ _ _ ?hwy5x4 ?_
                                  case hwy5x4 => kernel_rfl
                                  intro K hK
                                  go_simp
                                  refine hK _ ?_
                                  clear hK K
                                  refine @wpStill_want _ _ _ _ _ _ _ ?hwy5x5 ?_
                                  case hwy5x5 => kernel_rfl
                                  intro K hK
                                  go_simp
                                  refine hK _ ?_
                                  clear hK K
                                  refine @wpStill_want _ _ _ _ _ _ _ ?hwy5x6 ?_
                                  case hwy5x6 => kernel_rfl
                                  intro K hK
                                  go_simp
                                  refine hK _ ?_
                                  clear hK K
                                  refine @wpStill_want _ _ _ _ _ _ _ ?hwy5x7 ?_
                                  case hwy5x7 => kernel_rfl
                                  intro K hK
                                  go_simp
                                  refine hK _ ?_
                                  clear hK K
                                  refine @wpStill_want _ _ _ _ _ _ _ ?hwy5x8 ?_
                                  case hwy5x8 => kernel_rfl
                                  intro K hK
                                  go_simp
                                  refine hK _ ?_
                                  clear hK K
                                  refine @wpStill_want _ _ _ _ _ _ _ ?hwy5x9 ?_
                                  case hwy5x9 => kernel_rfl
                                  intro K hK
                                  go_simp
                                  refine hK _ ?_
                                  clear hK K
                                  refine @wpStill_want _ _ _ _ _ _ _ ?hwy5x10 ?_
                                  case hwy5x10 => kernel_rfl
                                  intro K hK
                                  go_simp
                                  refine hK _ ?_
                                  clear hK K
                                  refine wpStill_load_at ?hwy6x0 39 _ rfl og (oo + j * 32) rfl (bcells x) _ RD.out Try.underlying39 rfl HXL.out ?_
                                  case hwy6x0 => kernel_rfl
                                  simp only [Act.put, List.setIfInBounds_toArray, List.set_cons_zero, List.set_cons_succ]
                                  refine wpStill_load_known ?hwy7x0 39 _ rfl wa 0 rfl (.agg D) LD.out ?_
                                  case hwy7x0 => kernel_rfl
                                  simp only [Act.put, List.setIfInBounds_toArray, List.set_cons_zero, List.set_cons_succ]
                                  have heq := HEQ.out
                                  clear cB
                                  refine @wpStill_want _ _ _ _ _ _ _ ?hwy8x0 ?_
                                  case hwy8x0 => kernel_rfl
                                  intro K hK
                                  go_simp
                                  refine hK _ ?_
                                  clear hK K
                                  refine @wpStill_want _ _ _ _ _ _ _ ?hwy8x1 ?_
                                  case hwy8x1 => kernel_rfl
                                  intro K hK
                                  go_simp
                                  refine hK _ ?_
                                  clear hK K
                                  refine @wpStill_want _ _ _ _ _ _ _ ?hwy8x2 ?_
                                  case hwy8x2 => kernel_rfl
                                  intro K hK
                                  go_simp
                                  refine hK _ ?_
                                  clear hK K
                                  refine wpStill_nil ?_
                                  refine @BigFrame.wpList_want _ _ _ _ _ _ _ ?hwy9x0 ?_
                                  case hwy9x0 => kernel_rfl
                                  intro K hK
                                  go_simp
                                  refine hK _ _ ?_
                                  clear hK K
                                  go_wp2
                                  exact ⟨⟨j + 1, by omega, by rw [Int.natCast_add]; rfl, ⟨_, rfl, Lib.hid (by rw [HMO.out]; rfl)⟩, HKD⟩, by simp only [RowKit.intOf]; omega⟩
                          | false =>
                            as_aux_lemma =>
                              go_upto_region 22 with fail
                              refine wp_region_lit ?_
                              refine @BigFrame.wpList_want _ _ _ _ _ _ _ ?hwf00 ?_
                              case hwf00 => kernel_rfl
                              intro K hK
                              go_simp
                              refine hK _ _ ?_
                              clear hK K
                              refine @BigFrame.wpList_want _ _ _ _ _ _ _ ?hwf01 ?_
                              case hwf01 => kernel_rfl
                              intro K hK
                              go_simp
                              refine hK _ _ ?_
                              clear hK K
                              refine @wpList_skip _ _ _ _ _ _ _ ?hwf02 ?_
                              case hwf02 => kernel_rfl
                              simp only [Act.put, List.setIfInBounds_toArray, List.set_cons_zero, List.set_cons_succ]
                              refine @wpList_skip _ _ _ _ _ _ _ ?hwf03 ?_
                              case hwf03 => kernel_rfl
                              simp only [Act.put, List.setIfInBounds_toArray, List.set_cons_zero, List.set_cons_succ]
                              refine @wpList_skip _ _ _ _ _ _ _ ?hwf04 ?_
                              case hwf04 => kernel_rfl
                              simp only [Act.put, List.setIfInBounds_toArray, List.set_cons_zero, List.set_cons_succ]
                              refine @wpList_skip _ _ _ _ _ _ _ ?hwf05 ?_
                              case hwf05 => kernel_rfl
                              simp only [Act.put, List.setIfInBounds_toArray, List.set_cons_zero, List.set_cons_succ]
                              refine @wpList_skip _ _ _ _ _ _ _ ?hwf06 ?_
                              case hwf06 => kernel_rfl
                              simp only [Act.put, List.setIfInBounds_toArray, List.set_cons_zero, List.set_cons_succ]
                              refine @wpList_skip _ _ _ _ _ _ _ ?hwf07 ?_
                              case hwf07 => kernel_rfl
                              simp only [Act.put, List.setIfInBounds_toArray, List.set_cons_zero, List.set_cons_succ]
                              refine @wpList_skip _ _ _ _ _ _ _ ?hwf08 ?_
                              case hwf08 => kernel_rfl
                              simp only [Act.put, List.setIfInBounds_toArray, List.set_cons_zero, List.set_cons_succ]
                              refine @wpList_skip _ _ _ _ _ _ _ ?hwf09 ?_
                              case hwf09 => kernel_rfl
                              simp only [Act.put, List.setIfInBounds_toArray, List.set_cons_zero, List.set_cons_succ]
                              refine @wpList_skip _ _ _ _ _ _ _ ?hwf10 ?_
                              case hwf10 => kernel_rfl
                              simp only [Act.put, List.setIfInBounds_toArray, List.set_cons_zero, List.set_cons_succ]
                              refine @wpList_skip _ _ _ _ _ _ _ ?hwf11 ?_
                              case hwf11 => kernel_rfl
                              simp only [Act.put, List.setIfInBounds_toArray, List.set_cons_zero, List.set_cons_succ]
                              refine @wpList_skip _ _ _ _ _ _ _ ?hwf12 ?_
                              case hwf12 => kernel_rfl
                              simp only [Act.put, List.setIfInBounds_toArray, List.set_cons_zero, List.set_cons_succ]
                              refine @BigFrame.wpList_want _ _ _ _ _ _ _ ?hwf13 ?_
                              case hwf13 => kernel_rfl
                              intro K hK
                              go_simp
                              refine hK _ _ ?_
                              clear hK K
                              have HK8 := hK
                              clear cB
                              cases tb with
                              | true =>
                                as_aux_lemma =>
                                  go_upto_region 24 with fail
                                  refine wp_region_still_tail 16 (by kernel_rfl) (by kernel_rfl) ?_
                                  simp only [List.take_succ_cons, List.take_zero, List.drop_succ_cons, List.drop_zero]
                                  generalize hw9 : ({ heap := wr.heap, tape := wr.tape, drawn := wr.drawn + 1, os := wr.os, output := wr.output } : World) = wd
                                  have HKD : Hid (Kept w5.heap.size w5.heap.size w5 wd) := Lib.hid (by rw [← hw9]; exact HK8.out.drew)
                                  clear hw9
                                  refine @wpStill_want _ _ _ _ _ _ _ ?hwy10x0 ?_
                                  case hwy10x0 => kernel_rfl
                                  intro K hK
                                  go_simp
                                  refine hK _ ?_
                                  clear hK K
                                  refine @wpStill_want _ _ _ _ _ _ _ ?hwy10x1 ?_
                                  case hwy10x1 => kernel_rfl
                                  intro K hK
                                  go_simp
                                  refine hK _ ?_
                                  clear hK K
                                  refine @wpStill_skip _ _ _ _ _ _ _ ?hwy11x0 ?_
                                  case hwy11x0 => kernel_rfl
                                  simp only [Act.put, List.setIfInBounds_toArray, List.set_cons_zero, List.set_cons_succ]
                                  refine @wpStill_skip _ _ _ _ _ _ _ ?hwy11x1 ?_
                                  case hwy11x1 => kernel_rfl
                                  simp only [Act.put, List.setIfInBounds_toArray, List.set_cons_zero, List.set_cons_succ]
                                  refine @wpStill_skip _ _ _ _ _ _ _ ?hwy11x2 ?_
                                  case hwy11x2 => kernel_rfl
                                  simp only [Act.put, List.setIfInBounds_toArray, List.set_cons_zero, List.set_cons_succ]
                                  refine @wpStill_skip _ _ _ _ _ _ _ ?hwy11x3 ?_
                                  case hwy11x3 => kernel_rfl
                                  simp only [Act.put, List.setIfInBounds_toArray, List.set_cons_zero, List.set_cons_succ]
                                  refine @wpStill_skip _ _ _ _ _ _ _ ?hwy11x4 ?_
                                  case hwy11x4 => kernel_rfl
                                  simp only [Act.put, List.setIfInBounds_toArray, List.set_cons_zero, List.set_cons_succ]
                                  refine @wpStill_skip _ _ _ _ _ _ _ ?hwy11x5 ?_
                                  case hwy11x5 => kernel_rfl
                                  simp only [Act.put, List.setIfInBounds_toArray, List.set_cons_zero, List.set_cons_succ]
                                  refine @wpStill_skip _ _ _ _ _ _ _ ?hwy11x6 ?_
                                  case hwy11x6 => kernel_rfl
                                  simp only [Act.put, List.setIfInBounds_toArray, List.set_cons_zero, List.set_cons_succ]
                                  refine @wpStill_skip _ _ _ _ _ _ _ ?hwy11x7 ?_
                                  case hwy11x7 => kernel_rfl
                                  simp only [Act.put, List.setIfInBounds_toArray, List.set_cons_zero, List.set_cons_succ]
                                  refine @wpStill_skip _ _ _ _ _ _ _ ?hwy11x8 ?_
                                  case hwy11x8 => kernel_rfl
                                  simp only [Act.put, List.setIfInBounds_toArray, List.set_cons_zero, List.set_cons_succ]
                                  refine @wpStill_skip _ _ _ _ _ _ _ ?hwy11x9 ?_
                                  case hwy11x9 => kernel_rfl
                                  simp only [Act.put, List.setIfInBounds_toArray, List.set_cons_zero, List.set_cons_succ]
                                  refine @wpStill_skip _ _ _ _ _ _ _ ?hwy11x10 ?_
                                  case hwy11x10 => kernel_rfl
                                  simp only [Act.put, List.setIfInBounds_toArray, List.set_cons_zero, List.set_cons_succ]
                                  refine @wpStill_skip _ _ _ _ _ _ _ ?hwy11x11 ?_
                                  case hwy11x11 => kernel_rfl
                                  simp only [Act.put, List.setIfInBounds_toArray, List.set_cons_zero, List.set_cons_succ]
                                  refine @wpStill_skip _ _ _ _ _ _ _ ?hwy11x12 ?_
                                  case hwy11x12 => kernel_rfl
                                  simp only [Act.put, List.setIfInBounds_toArray, List.set_cons_zero, List.set_cons_succ]
                                  refine @wpStill_want _ _ _ _ _ _ _ ?hwy12x0 ?_
                                  case hwy12x0 => kernel_rfl
                                  intro K hK
                                  go_simp
                                  refine hK _ ?_
                                  clear hK K
                                  refine wpStill_nil ?_
                                  refine @BigFrame.wpList_want _ _ _ _ _ _ _ ?hwy13x0 ?_
                                  case hwy13x0 => kernel_rfl
                                  intro K hK
                                  go_simp
                                  refine hK _ _ ?_
                                  clear hK K
                                  go_wp2
                                  exact ⟨⟨j + 1, by omega, by rw [Int.natCast_add]; rfl, ⟨_, rfl, Lib.hid (by rw [HMO.out]; rfl)⟩, HKD⟩, by simp only [RowKit.intOf]; omega⟩
                              | false =>
                                as_aux_lemma =>
                                  go_upto_region 24 with fail
                                  refine wp_region_still_tail 16 (by kernel_rfl) (by kernel_rfl) ?_
                                  simp only [List.take_succ_cons, List.take_zero, List.drop_succ_cons, List.drop_zero]
                                  generalize hw9 : ({ heap := wr.heap, tape := wr.tape, drawn := wr.drawn + 1, os := wr.os, output := wr.output } : World) = wd
                                  have HKD : Hid (Kept w5.heap.size w5.heap.size w5 wd) := Lib.hid (by rw [← hw9]; exact HK8.out.drew)
                                  clear hw9
                                  refine @wpStill_want _ _ _ _ _ _ _ ?hwy14x0 ?_
                                  case hwy14x0 => kernel_rfl
                                  intro K hK
                                  go_simp
                                  refine hK _ ?_
                                  clear hK K
                                  refine @wpStill_want _ _ _ _ _ _ _ ?hwy14x1 ?_
                                  case hwy14x1 => kernel_rfl
                                  intro K hK
                                  go_simp
                                  refine hK _ ?_
                                  clear hK K
                                  refine @wpStill_want _ _ _ _ _ _ _ ?hwy14x2 ?_
                                  case hwy14x2 => kernel_rfl
                                  intro K hK
                                  go_simp
                                  refine hK _ ?_
                                  clear hK K
                                  refine @wpStill_want _ _ _ _ _ _ _ ?hwy14x3 ?_
                                  case hwy14x3 => kernel_rfl
                                  intro K hK
                                  go_simp
                                  refine hK _ ?_
                                  clear hK K
                                  refine @wpStill_skip _ _ _ _ _ _ _ ?hwy15x0 ?_
                                  case hwy15x0 => kernel_rfl
                                  simp only [Act.put, List.setIfInBounds_toArray, List.set_cons_zero, List.set_cons_succ]
                                  refine @wpStill_skip _ _ _ _ _ _ _ ?hwy15x1 ?_
                                  case hwy15x1 => kernel_rfl
                                  simp only [Act.put, List.setIfInBounds_toArray, List.set_cons_zero, List.set_cons_succ]
                                  refine @wpStill_skip _ _ _ _ _ _ _ ?hwy15x2 ?_
                                  case hwy15x2 => kernel_rfl
                                  simp only [Act.put, List.setIfInBounds_toArray, List.set_cons_zero, List.set_cons_succ]
                                  refine @wpStill_skip _ _ _ _ _ _ _ ?hwy15x3 ?_
                                  case hwy15x3 => kernel_rfl
                                  simp only [Act.put, List.setIfInBounds_toArray, List.set_cons_zero, List.set_cons_succ]
                                  refine @wpStill_skip _ _ _ _ _ _ _ ?hwy15x4 ?_
                                  case hwy15x4 => kernel_rfl
                                  simp only [Act.put, List.setIfInBounds_toArray, List.set_cons_zero, List.set_cons_succ]
                                  refine @wpStill_skip _ _ _ _ _ _ _ ?hwy15x5 ?_
                                  case hwy15x5 => kernel_rfl
                                  simp only [Act.put, List.setIfInBounds_toArray, List.set_cons_zero, List.set_cons_succ]
                                  refine @wpStill_skip _ _ _ _ _ _ _ ?hwy15x6 ?_
                                  case hwy15x6 => kernel_rfl
                                  simp only [Act.put, List.setIfInBounds_toArray, List.set_cons_zero, List.set_cons_succ]
                                  refine @wpStill_skip _ _ _ _ _ _ _ ?hwy15x7 ?_
                                  case hwy15x7 => kernel_rfl
                                  simp only [Act.put, List.setIfInBounds_toArray, List.set_cons_zero, List.set_cons_succ]
                                  refine @wpStill_skip _ _ _ _ _ _ _ ?hwy15x8 ?_
                                  case hwy15x8 => kernel_rfl
                                  simp only [Act.put, List.setIfInBounds_toArray, List.set_cons_zero, List.set_cons_succ]
                                  refine @wpStill_skip _ _ _ _ _ _ _ ?hwy15x9 ?_
                                  case hwy15x9 => kernel_rfl
                                  simp only [Act.put, List.setIfInBounds_toArray, List.set_cons_zero, List.set_cons_succ]
                                  refine @wpStill_want _ _ _ _ _ _ _ ?hwy16x0 ?_
                                  case hwy16x0 => kernel_rfl
                                  intro K hK
                                  go_simp
                                  refine hK _ ?_
                                  clear hK K
                                  refine @wpStill_want _ _ _ _ _ _ _ ?hwy16x1 ?_
                                  case hwy16x1 => kernel_rfl
                                  intro K hK
                                  go_simp
                                  refine hK _ ?_
                                  clear hK K
                                  refine wpStill_nil ?_
                                  refine @BigFrame.wpList_want _ _ _ _ _ _ _ ?hwy17x0 ?_
                                  case hwy17x0 => kernel_rfl
                                  intro K hK
                                  go_simp
                                  refine hK _ _ ?_
                                  clear hK K
                                  go_wp2
                                  exact ⟨⟨j + 1, by omega, by rw [Int.natCast_add]; rfl, ⟨_, rfl, Lib.hid (by rw [HMO.out]; rfl)⟩, HKD⟩, by simp only [RowKit.intOf]; omega⟩
                        · obtain rfl : j = f.2.length := by omega
                          have hd5 : decide ((f.2.length : Int) < (f.2.length : Int)) = false := decide_eq_false (by omega)
                          have hqt := htb.out
                          rw [List.take_of_length_le (Nat.le_refl _)] at hqt
                          have HT := Lib.hid (show tb = saidB F M h (L.take (k + 1)) by rw [HMORE.out, hqt])
                          clear htb hqt
                          go_wp2
                          exact ⟨⟨k + 1, by omega, by rw [Int.natCast_add]; rfl, ⟨tb, rfl, HT⟩, hK⟩, by simp only [RowKit.intOf]; omega⟩
            · obtain rfl : k = L.length := by omega
              have hd6 : decide ((L.length : Int) < (L.length : Int)) = false := decide_eq_false (by omega)
              have hsq := hsb.out
              rw [List.take_of_length_le (Nat.le_refl _)] at hsq
              have HSQ := Lib.hid hsq
              have hkn := HKN5.out wr hK.out
              have HKNX := Lib.hid hkn
              have lD := HLD.out wr hK.out
              have LD := Lib.hid lD
              clear hsq hsb hkn lD
              cases sb with
              | true =>
                as_aux_lemma =>
                  go_upto_region 25 with fail
                  refine wp_region_lit ?_
                  refine @BigFrame.wpList_want _ _ _ _ _ _ _ ?hwg0 ?_
                  case hwg0 => kernel_rfl
                  intro K hK
                  go_simp
                  refine hK _ _ ?_
                  clear hK K
                  refine @BigFrame.wpList_want _ _ _ _ _ _ _ ?hwg1 ?_
                  case hwg1 => kernel_rfl
                  intro K hK
                  go_simp
                  refine hK _ _ ?_
                  clear hK K
                  refine @wpList_skip _ _ _ _ _ _ _ ?hwh02 ?_
                  case hwh02 => kernel_rfl
                  simp only [Act.put, List.setIfInBounds_toArray, List.set_cons_zero, List.set_cons_succ]
                  refine @wpList_skip _ _ _ _ _ _ _ ?hwh03 ?_
                  case hwh03 => kernel_rfl
                  simp only [Act.put, List.setIfInBounds_toArray, List.set_cons_zero, List.set_cons_succ]
                  refine @wpList_skip _ _ _ _ _ _ _ ?hwh04 ?_
                  case hwh04 => kernel_rfl
                  simp only [Act.put, List.setIfInBounds_toArray, List.set_cons_zero, List.set_cons_succ]
                  refine @wpList_skip _ _ _ _ _ _ _ ?hwh05 ?_
                  case hwh05 => kernel_rfl
                  simp only [Act.put, List.setIfInBounds_toArray, List.set_cons_zero, List.set_cons_succ]
                  refine @wpList_skip _ _ _ _ _ _ _ ?hwh06 ?_
                  case hwh06 => kernel_rfl
                  simp only [Act.put, List.setIfInBounds_toArray, List.set_cons_zero, List.set_cons_succ]
                  refine @BigFrame.wpList_want _ _ _ _ _ _ _ ?hwh7 ?_
                  case hwh7 => kernel_rfl
                  intro K hK
                  go_simp
                  refine hK _ _ ?_
                  clear hK K
                  refine @BigFrame.wpList_want _ _ _ _ _ _ _ ?hwh8 ?_
                  case hwh8 => kernel_rfl
                  intro K hK
                  go_simp
                  refine hK _ _ ?_
                  clear hK K
                  go_wp2
                  go_ret
                  exact ⟨rfl, HOUT5.out _ hK.out⟩
              | false =>
                as_aux_lemma =>
                  go_upto_region 25 with fail
                  refine wp_region_lit ?_
                  refine @BigFrame.wpList_want _ _ _ _ _ _ _ ?hwi0 ?_
                  case hwi0 => kernel_rfl
                  intro K hK
                  go_simp
                  refine hK _ _ ?_
                  clear hK K
                  refine @BigFrame.wpList_want _ _ _ _ _ _ _ ?hwi1 ?_
                  case hwi1 => kernel_rfl
                  intro K hK
                  go_simp
                  refine hK _ _ ?_
                  clear hK K
                  refine @BigFrame.wpList_want _ _ _ _ _ _ _ ?hwi2 ?_
                  case hwi2 => kernel_rfl
                  intro K hK
                  go_simp
                  refine hK _ _ ?_
                  clear hK K
                  refine wpList_load_known ?hwi3 39 _ rfl wa 0 rfl (.agg D) LD.out ?_
                  case hwi3 => kernel_rfl
                  simp only [Act.put, List.setIfInBounds_toArray, List.set_cons_zero, List.set_cons_succ]
                  refine @BigFrame.wpList_want _ _ _ _ _ _ _ ?hwi4 ?_
                  case hwi4 => kernel_rfl
                  intro K hK
                  go_simp
                  refine hK _ _ ?_
                  clear hK K
                  refine @BigFrame.wpList_want _ _ _ _ _ _ _ ?hwi5 ?_
                  case hwi5 => kernel_rfl
                  intro K hK
                  go_simp
                  go_at_call 23; refine HKNX.out.mono ?_; rintro e w8 ⟨bk, rfl, hbk, k8⟩; have hbf : bk = false := Bool.eq_false_iff.2 fun e => absurd ((HSQ.out).trans (saidB_cl HI.out (hbk.1 e))) (by decide); subst hbf; clear hbk
                  refine hK _ _ ?_
                  clear hK K
                  refine @BigFrame.wpList_want _ _ _ _ _ _ _ ?hwi6 ?_
                  case hwi6 => kernel_rfl
                  intro K hK
                  go_simp
                  refine hK _ _ ?_
                  clear hK K
                  refine @BigFrame.wpList_want _ _ _ _ _ _ _ ?hwi7 ?_
                  case hwi7 => kernel_rfl
                  intro K hK
                  go_simp
                  refine hK _ _ ?_
                  clear hK K
                  refine @BigFrame.wpList_want _ _ _ _ _ _ _ ?hwi8 ?_
                  case hwi8 => kernel_rfl
                  intro K hK
                  go_simp
                  refine hK _ _ ?_
                  clear hK K
                  go_wp2
                  go_ret
                  exact ⟨rfl, HOUT5.out _ (hK.out.trans (k8.mono hK.out.size (fun i hi _ => by have := hK.out.size; omega)))⟩

end Go.Proofs.Ytmcnmcnmcpfmiaa
