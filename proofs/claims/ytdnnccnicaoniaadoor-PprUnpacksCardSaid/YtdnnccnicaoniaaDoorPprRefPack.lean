/-
  The document's Pack.
-/
import Derived.Test.YtdnnccnicaoniaaDoorPprBelows
import Derived.Test.YtdnnccnicaoniaaDoorGV

namespace Go.Proofs.YtdnnccnicaoniaaDoor
open Go.RowKit Go.Lib

namespace Pp
def pack1 (s : Sd) : List UInt8 := Wm.enc s.level ++ Wm.enc s.place ++ s.self
def packs : List Sd → List UInt8
  | [] => []
  | s :: L => pack1 s ++ packs L
def pack (L : List Sd) : List UInt8 := Wm.enc L.length ++ packs L
theorem packs_snoc (s : Sd) : ∀ L, packs (L ++ [s]) = packs L ++ pack1 s
  | [] => by simp [packs]
  | x :: L => by simp [packs, packs_snoc s L]
theorem packs_length : ∀ L : List Sd, (∀ s ∈ L, s.self.length = 32) → (packs L).length ≤ 48 * L.length
  | [], _ => Nat.le_refl _
  | s :: L, h => by
    have h1 := packs_length L (fun x hx => h x (by simp [hx]))
    have h2 := h s (by simp)
    have h3 := Wm.enc_length_le s.level
    have h4 := Wm.enc_length_le s.place
    simp only [packs, pack1, List.length_append, List.length_cons]
    omega
end Pp

set_option maxRecDepth 100000 in
set_option maxHeartbeats 6400000 in
theorem refpack_calls (L : List Sd) (hin : ∀ s ∈ L, s.level < 4294967296 ∧ s.place < 4294967296 ∧ s.self.length = 32) (hn : L.length < 100000) (v : Value) (w : World) (hS : Ss w v L) :
    Calls Tryd.prog 28 #[v] w fun e w' => e = .returned (.string (str (Pp.pack L))) ∧ Kept w.heap.size w.heap.size w w' := by
  obtain ⟨ad, g, o, c, rfl, hss, _⟩ := hS
  obtain ⟨ln, hln⟩ : ∃ ln, ln = L.length := ⟨_, rfl⟩
  have HNUM := Lib.hid (fun w => refnum ln w (by omega))
  rw [← hln]
  have HSS := Lib.hid hss
  have HIN := Lib.hid hin
  have HLN := Lib.hid hln
  have hln9 : (ln : Int) < 100000 := by omega
  have HSZ := Lib.hid (fun i => Pp.packs_length (L.take i) (fun s hs => (hin s (List.mem_of_mem_take hs)).2.2))
  obtain ⟨EN, hEN⟩ : ∃ EN, EN = str (Wm.enc ln) := ⟨_, rfl⟩
  rw [← hEN] at HNUM
  have HEN := Lib.hid hEN
  clear hss hin hln hn hEN
  go_enter Tryd.func28, Tryd.ntmps28
  go_wp2_with (go_at_call 53; refine (HNUM.out _).mono ?_; rintro e w1 ⟨rfl, k1⟩)
  have K1 := Lib.hid k1
  clear k1
  go_loopw [3, 4] (fun s3 s4 wr => ∃ i : Nat, ∃ A : ByteArray, s3 = .string A ∧ s4 = .int .i64 (i : Int) ∧ Hid (i ≤ ln) ∧ Hid (A = EN ++ str (Pp.packs (L.take i))) ∧ Hid (Kept w.heap.size w.heap.size w wr)) (fun _ s4 _ => ln - (RowKit.intOf s4).toNat)
  case atStart => exact ⟨0, EN, rfl, rfl, Lib.hid (Nat.zero_le _), Lib.hid (by have h := str_append (Wm.enc ln) []; rw [List.append_nil] at h; rw [HEN.out]; exact h.symm), K1⟩
  case round =>
    obtain ⟨i, A, rfl, rfl, hi, HA, HK⟩ := hrel
    by_cases hlt : i < ln
    · have hiL : i < L.length := by rw [← HLN.out]; exact hlt
      obtain ⟨had, hg, hr⟩ := HSS.out i hiL
      subst had
      obtain ⟨b1, b2, b3⟩ := HIN.out _ (List.getElem_mem hiL)
      have hlti : (i : Int) < (ln : Int) := by omega
      have hi0 : ¬ (i : Int) < 0 := by omega
      have HNX := Lib.hid (show Pp.packs (L.take (i + 1)) = Pp.packs (L.take i) ++ Pp.pack1 L[i] by rw [List.take_succ_eq_append_getElem hiL, Pp.packs_snoc])
      have hAs : A.size ≤ 5000000 := by
        rw [HA.out, HEN.out, str_append, str_size, List.length_append]
        have h1 := HSZ.out i
        have h2 := Wm.enc_length_le ln
        rw [List.length_take] at h1
        have h3 : min i L.length ≤ i := Nat.min_le_left _ _
        omega
      have hrw : wr.rangeAt g (o + i * 34) (Pp.cells L[i]) := rangeAt_kept HK.out hr hg (Nat.ne_of_lt hg)
      have HGW := Lib.hid (show g < wr.heap.size from Nat.lt_of_lt_of_le hg HK.out.size)
      generalize L[i] = s at b1 b2 b3 HNX hrw
      have HLT := Lib.hid hlt
      have hl0 := fun w' (kk : Kept wr.heap.size wr.heap.size wr w') => rangeAt_kept kk hrw HGW.out (Nat.ne_of_lt HGW.out)
      have HL0 := Lib.hid (fun w' (kk : Kept wr.heap.size wr.heap.size wr w') => load_int (w := w') (g := g) (o := o + i * 34) (n := (s.level : Int)) (by simpa using hl0 w' kk 0 _ rfl))
      have HL1 := Lib.hid (fun w' (kk : Kept wr.heap.size wr.heap.size wr w') => load_int (w := w') (g := g) (o := o + i * 34 + 1) (n := (s.place : Int)) (hl0 w' kk 1 _ rfl))
      have HL2 := Lib.hid (fun w' (kk : Kept wr.heap.size wr.heap.size wr w') => run_loadVar_mid w' g (o + i * 34 + 2) 22 (bcells s.self) _ (fun j u hj => by
        have := hl0 w' kk (j + 2) u (by simpa [Pp.cells] using hj)
        rwa [show o + i * 34 + (j + 2) = o + i * 34 + 2 + j by omega] at this) Tryd.underlying22 rfl (by have := h32Info (cs := (bcells s.self).toArray) (by rw [List.size_toArray, bcells_length, b3]); simpa using this))
      have hn1 := fun w => refnum s.level w (by omega)
      have hn2 := fun w => refnum s.place w (by omega)
      have hn3 := fun w => refhash s.self b3 w
      obtain ⟨E1, hE1⟩ : ∃ E, E = str (Wm.enc s.level) := ⟨_, rfl⟩
      obtain ⟨E2, hE2⟩ : ∃ E, E = str (Wm.enc s.place) := ⟨_, rfl⟩
      obtain ⟨E3, hE3⟩ : ∃ E, E = str s.self := ⟨_, rfl⟩
      rw [← hE1] at hn1
      rw [← hE2] at hn2
      rw [← hE3] at hn3
      have hs1 : E1.size ≤ 8 := by rw [hE1, str_size]; exact Wm.enc_length_le _
      have hs2 : E2.size ≤ 8 := by rw [hE2, str_size]; exact Wm.enc_length_le _
      have hs3 : E3.size = 32 := by rw [hE3, str_size, b3]
      have HN1 := Lib.hid hn1
      have HN2 := Lib.hid hn2
      have HN3 := Lib.hid hn3
      have HE := Lib.hid (show A ++ E1 ++ E2 ++ E3 = EN ++ str (Pp.packs (L.take (i + 1))) by
        rw [HNX.out, HA.out, hE1, hE2, hE3, Pp.pack1]
        simp only [str_append, ByteArray.append_assoc, List.append_assoc])
      obtain ⟨SD, hSD⟩ : ∃ SD, SD = (bcells s.self).toArray := ⟨_, rfl⟩
      rw [← hSD] at HL2 HN3
      generalize (s.level : Int) = lev at HL0 HN1
      generalize (s.place : Int) = plc at HL1 HN2
      clear hlt hiL hg hr hi b1 b2 b3 hrw hl0 hn1 hn2 hn3 hE1 hE2 hE3 hSD
      go_upto_region 5 with fail
      have KD0 : Kept wr.heap.size wr.heap.size wr wr.drew := (Kept.refl _ _ _).drew
      refine wp_region_noPanic ?_
      refine wp_region_held_drew (S := fun w' => Kept wr.heap.size wr.heap.size wr w') (by kernel_rfl) (KD0) (fun hH => ?_)
      refine wpAnyH_take_at (i := 0) 14 (.string A) rfl rfl (by kernel_rfl) (by kernel_rfl) (by kernel_rfl) (fun _ _ _ h => h) (.inl ⟨by kernel_rfl, fun w9 _ => by go_simp⟩) hH ?_
      simp only [List.setIfInBounds_toArray, List.set_cons_zero, List.set_cons_succ]
      refine wpAnyH_take_at (i := 1) 15 (.slice (some ⟨g, o, none⟩) ln c) rfl rfl (by kernel_rfl) (by kernel_rfl) (by kernel_rfl) (fun _ _ _ h => h) (.inl ⟨by kernel_rfl, fun w9 _ => by go_simp⟩) hH ?_
      simp only [List.setIfInBounds_toArray, List.set_cons_zero, List.set_cons_succ]
      refine wpAnyH_take_at (i := 2) 16 (.int .i64 (i : Int)) rfl rfl (by kernel_rfl) (by kernel_rfl) (by kernel_rfl) (fun _ _ _ h => h) (.inl ⟨by kernel_rfl, fun w9 _ => by go_simp⟩) hH ?_
      simp only [List.setIfInBounds_toArray, List.set_cons_zero, List.set_cons_succ]
      refine wpAnyH_take_at (i := 3) 17 (.pointer (some ⟨g, o + i * 34, none⟩)) rfl rfl (by kernel_rfl) (by kernel_rfl) (by kernel_rfl) (fun _ _ _ h => h) (.inl ⟨by kernel_rfl, fun w9 _ => by go_simp⟩) hH ?_
      simp only [List.setIfInBounds_toArray, List.set_cons_zero, List.set_cons_succ]
      refine wpAnyH_take_at (i := 4) 18 (.pointer (some ⟨g, o + i * 34, none⟩)) rfl rfl (by kernel_rfl) (by kernel_rfl) (by kernel_rfl) (fun _ _ _ h => h) (.inl ⟨by kernel_rfl, fun w9 _ => by go_simp⟩) hH ?_
      simp only [List.setIfInBounds_toArray, List.set_cons_zero, List.set_cons_succ]
      refine wpAnyH_take_at (i := 5) 19 (.int .i64 lev) rfl rfl (by kernel_rfl) (by kernel_rfl) (by kernel_rfl) (fun _ _ _ h => h) (yieldsIf_load_known (by kernel_rfl) 3 _ rfl g (o + i * 34) rfl (.int .i64 lev) (fun w' hw' => HL0.out w' hw')) hH ?_
      simp only [List.setIfInBounds_toArray, List.set_cons_zero, List.set_cons_succ]
      refine wpAnyH_take_at (i := 8) 22 (.slice (some ⟨g, o, none⟩) ln c) rfl rfl (by kernel_rfl) (by kernel_rfl) (by kernel_rfl) (fun _ _ _ h => h) (.inl ⟨by kernel_rfl, fun w9 _ => by go_simp⟩) hH ?_
      simp only [List.setIfInBounds_toArray, List.set_cons_zero, List.set_cons_succ]
      refine wpAnyH_take_at (i := 9) 23 (.int .i64 (i : Int)) rfl rfl (by kernel_rfl) (by kernel_rfl) (by kernel_rfl) (fun _ _ _ h => h) (.inl ⟨by kernel_rfl, fun w9 _ => by go_simp⟩) hH ?_
      simp only [List.setIfInBounds_toArray, List.set_cons_zero, List.set_cons_succ]
      refine wpAnyH_take_at (i := 10) 24 (.pointer (some ⟨g, o + i * 34, none⟩)) rfl rfl (by kernel_rfl) (by kernel_rfl) (by kernel_rfl) (fun _ _ _ h => h) (.inl ⟨by kernel_rfl, fun w9 _ => by go_simp⟩) hH ?_
      simp only [List.setIfInBounds_toArray, List.set_cons_zero, List.set_cons_succ]
      refine wpAnyH_take_at (i := 11) 25 (.pointer (some ⟨g, o + i * 34 + 1, none⟩)) rfl rfl (by kernel_rfl) (by kernel_rfl) (by kernel_rfl) (fun _ _ _ h => h) (.inl ⟨by kernel_rfl, fun w9 _ => by go_simp⟩) hH ?_
      simp only [List.setIfInBounds_toArray, List.set_cons_zero, List.set_cons_succ]
      refine wpAnyH_take_at (i := 12) 26 (.int .i64 plc) rfl rfl (by kernel_rfl) (by kernel_rfl) (by kernel_rfl) (fun _ _ _ h => h) (yieldsIf_load_known (by kernel_rfl) 3 _ rfl g (o + i * 34 + 1) rfl (.int .i64 plc) (fun w' hw' => HL1.out w' hw')) hH ?_
      simp only [List.setIfInBounds_toArray, List.set_cons_zero, List.set_cons_succ]
      refine wpAnyH_take_at (i := 15) 29 (.slice (some ⟨g, o, none⟩) ln c) rfl rfl (by kernel_rfl) (by kernel_rfl) (by kernel_rfl) (fun _ _ _ h => h) (.inl ⟨by kernel_rfl, fun w9 _ => by go_simp⟩) hH ?_
      simp only [List.setIfInBounds_toArray, List.set_cons_zero, List.set_cons_succ]
      refine wpAnyH_take_at (i := 16) 30 (.int .i64 (i : Int)) rfl rfl (by kernel_rfl) (by kernel_rfl) (by kernel_rfl) (fun _ _ _ h => h) (.inl ⟨by kernel_rfl, fun w9 _ => by go_simp⟩) hH ?_
      simp only [List.setIfInBounds_toArray, List.set_cons_zero, List.set_cons_succ]
      refine wpAnyH_take_at (i := 17) 31 (.pointer (some ⟨g, o + i * 34, none⟩)) rfl rfl (by kernel_rfl) (by kernel_rfl) (by kernel_rfl) (fun _ _ _ h => h) (.inl ⟨by kernel_rfl, fun w9 _ => by go_simp⟩) hH ?_
      simp only [List.setIfInBounds_toArray, List.set_cons_zero, List.set_cons_succ]
      refine wpAnyH_take_at (i := 18) 32 (.pointer (some ⟨g, o + i * 34 + 2, none⟩)) rfl rfl (by kernel_rfl) (by kernel_rfl) (by kernel_rfl) (fun _ _ _ h => h) (.inl ⟨by kernel_rfl, fun w9 _ => by go_simp⟩) hH ?_
      simp only [List.setIfInBounds_toArray, List.set_cons_zero, List.set_cons_succ]
      refine wpAnyH_take_at (i := 19) 33 (.agg SD) rfl rfl (by kernel_rfl) (by kernel_rfl) (by kernel_rfl) (fun _ _ _ h => h) (yieldsIf_load_known (by kernel_rfl) 22 _ rfl g (o + i * 34 + 2) rfl (.agg SD) (fun w' hw' => HL2.out w' hw')) hH ?_
      simp only [List.setIfInBounds_toArray, List.set_cons_zero, List.set_cons_succ]
      refine wpAnyH_ready (rs := [6]) (by kernel_rfl) (by simp) ?_
      refine AllReadyH.cons rfl (fun K hK => ?_) AllReadyH.nil
      rw [if_pos (by rfl)]
      go_simp
      go_wp2_with (go_at_call 53; refine (HN1.out _).mono ?_; rintro e w6 ⟨rfl, kw6⟩)
      have Kw6 : Kept wr.heap.size wr.heap.size wr w6 := KD0.trans (kw6.mono KD0.size (fun i hi _ => Nat.ne_of_lt (Nat.lt_of_lt_of_le hi KD0.size)))
      refine hK.out _ _ (Kw6) (fun hH => ?_)
      clear hK K
      refine wpAnyH_take_at (i := 7) 21 (.string (A ++ E1)) rfl rfl (by kernel_rfl) (by kernel_rfl) (by kernel_rfl) (fun _ _ _ h => h) (.inl ⟨by kernel_rfl, fun w9 _ => by go_simp; omega⟩) hH ?_
      simp only [List.setIfInBounds_toArray, List.set_cons_zero, List.set_cons_succ]
      refine wpAnyH_ready (rs := [13]) (by kernel_rfl) (by simp) ?_
      refine AllReadyH.cons rfl (fun K hK => ?_) AllReadyH.nil
      rw [if_pos (by rfl)]
      go_simp
      go_wp2_with (go_at_call 53; refine (HN2.out _).mono ?_; rintro e w7 ⟨rfl, kw7⟩)
      have Kw7 : Kept wr.heap.size wr.heap.size wr w7 := Kw6.trans (kw7.mono Kw6.size (fun i hi _ => Nat.ne_of_lt (Nat.lt_of_lt_of_le hi Kw6.size)))
      refine hK.out _ _ (Kw7) (fun hH => ?_)
      clear hK K
      refine wpAnyH_take_at (i := 14) 28 (.string (A ++ E1 ++ E2)) rfl rfl (by kernel_rfl) (by kernel_rfl) (by kernel_rfl) (fun _ _ _ h => h) (.inl ⟨by kernel_rfl, fun w9 _ => by go_simp; omega⟩) hH ?_
      simp only [List.setIfInBounds_toArray, List.set_cons_zero, List.set_cons_succ]
      refine wpAnyH_ready (rs := [20]) (by kernel_rfl) (by simp) ?_
      refine AllReadyH.cons rfl (fun K hK => ?_) AllReadyH.nil
      rw [if_pos (by rfl)]
      go_simp
      go_wp2_with (go_at_call 54; refine (HN3.out _).mono ?_; rintro e w8 ⟨rfl, kw8⟩)
      have Kw8 : Kept wr.heap.size wr.heap.size wr w8 := Kw7.trans (kw8.mono Kw7.size (fun i hi _ => Nat.ne_of_lt (Nat.lt_of_lt_of_le hi Kw7.size)))
      refine hK.out _ _ (Kw8) (fun hH => ?_)
      clear hK K
      refine wpAnyH_take_at (i := 21) 35 (.string (A ++ E1 ++ E2 ++ E3)) rfl rfl (by kernel_rfl) (by kernel_rfl) (by kernel_rfl) (fun _ _ _ h => h) (.inl ⟨by kernel_rfl, fun w9 _ => by go_simp; omega⟩) hH ?_
      simp only [List.setIfInBounds_toArray, List.set_cons_zero, List.set_cons_succ]
      refine wpAnyH_take_at (i := 22) 3 (.string (A ++ E1 ++ E2 ++ E3)) rfl rfl (by kernel_rfl) (by kernel_rfl) (by kernel_rfl) (fun _ _ _ h => h) (.inl ⟨by kernel_rfl, fun w9 _ => by go_simp⟩) hH ?_
      simp only [List.setIfInBounds_toArray, List.set_cons_zero, List.set_cons_succ]
      refine wpAnyH_done (by kernel_rfl) ?_ _
      refine NoPanic.normal ?_
      have HK8 := Lib.hid (HK.out.next1 Kw8)
      clear Kw6 Kw7 Kw8 KD0
      go_wp2
      go_roundw
      case rel => exact ⟨i + 1, _, rfl, by simp, Lib.hid HLT.out, HE, HK8⟩
      case measure => have := HLT.out; simp [RowKit.intOf]; omega
    · have hnl : ¬ (i : Int) < (ln : Int) := by omega
      have HI := Lib.hid (show i = L.length by have := hi.out; have := HLN.out; omega)
      clear hlt hi
      go_wp2
      refine bodyPost_ret (results_tmp rfl _ _ _) rfl ?_
      refine ⟨?_, HK.out⟩
      have e : A = str (Pp.pack L) := by rw [HA.out, HEN.out, HI.out, List.take_length, str_append, HLN.out]; rfl
      rw [← e]
      rfl

end Go.Proofs.YtdnnccnicaoniaaDoor
