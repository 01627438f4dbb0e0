/-
  The walk of the statement BookFollows: of any facts and secrets just that follows that the document says.
-/
import Derived.Test.YtmcnmcnmcpfmiaaGH
import Derived.Test.YtmcnmcnmcpfmiaaGD

namespace Go.Proofs.Ytmcnmcnmcpfmiaa
open Go.RowKit Go.Lib

theorem outs_le (b : Nat) : ∀ (fs : List (List (List UInt8) × List (List UInt8))), (∀ f ∈ fs, f.2.length ≤ b) → (Bk.outs fs).length ≤ fs.length * b
  | [], _ => by simp [Bk.outs]
  | f :: fs, h => by
    have h1 := outs_le b fs (fun g hg => h g (by simp [hg]))
    have h2 := h f (by simp)
    simp only [Bk.outs, List.flatMap_cons, List.length_append, List.length_cons] at h1 ⊢
    rw [Nat.add_mul]
    omega
theorem is_length {fs : List (List (List UInt8) × List (List UInt8))} {fr M : List (List UInt8)} (h : Bk.Is fs fr M) : M.length ≤ fr.length + (Bk.outs fs).length := by
  have hn : M.Nodup := h.rising.imp fun {a b} hab e => by
    subst e
    rw [Bk.less_irrefl] at hab
    cases hab
  have := Bk.nodup_le M (fr ++ Bk.outs fs) hn (fun x hx => Bk.cl_mem ((h.mem x).1 hx))
  rwa [List.length_append] at this
/-- What is few keeps its bounds when it is noted. -/
theorem few_notes {L : List (List (List UInt8) × List (List UInt8))} (h : Few L) : (notes L).length ≤ 60 ∧ (Bk.outs (notes L)).length ≤ 3600 ∧ ∀ f ∈ notes L, f.1.length < 1000000 ∧ f.2.length < 1000000 := by
  have h1 := notes_length L L.length (Nat.le_refl _)
  have h2 := notes_mem L L.length (Nat.le_refl _)
  rw [List.take_of_length_le (Nat.le_refl _)] at h1 h2
  have h3 := outs_le 60 (notes L) (fun f hf => (h.2 f (h2 f hf)).2)
  have h4 := h.1
  refine ⟨by omega, ?_, fun f hf => ?_⟩
  · have : (notes L).length * 60 ≤ 60 * 60 := Nat.mul_le_mul_right 60 (by omega)
    omega
  · have := h.2 f (h2 f hf)
    omega

theorem Bok.low {w w' : World} {base bb n : Nat} {fs : List (List (List UInt8) × List (List UInt8))} {nmf : Lit → Option Value} (h : ∃ S, Bok w base bb fs n nmf S) (k : Kept w.heap.size w.heap.size w w') : ∃ S, Bok w' base bb fs n nmf S := by
  obtain ⟨S, hB⟩ := h
  exact ⟨S, hB.kept k⟩
theorem alikeB_refl (L : List (List UInt8)) : alikeB L L = true := by unfold alikeB; exact beq_self_eq_true L

set_option maxRecDepth 100000 in
set_option maxHeartbeats 3200000 in
theorem bookfollows_walk (L : List (List (List UInt8) × List (List UInt8))) (v : Value) (F : List (List UInt8)) (u : Value) (w : World) (hL : FsW w v L) (hF : Hs w u F) : Calls Try.prog 3 #[v, u] w fun e w' => e = .returned (.bool true) ∧ Kept w.heap.size w.heap.size w w' := by
  obtain ⟨zp1, uad, ug, uo, uc, rfl, zp2⟩ := id hF
  clear zp1 zp2
  have haw := awake_calls
  have HAW := Lib.hid haw
  have HL := Lib.hid hL
  have HF := Lib.hid hF
  clear haw hL hF
  have hfw : ∀ w', Kept w.heap.size w.heap.size w w' → Calls Try.prog 17 #[v] w' (FewPost L w') := fun w' k => few_calls L v w' (HL.out.kept k).fs
  have HFW := Lib.hid hfw
  clear hfw
  go_enter Try.func3, Try.ntmps3
  go_wp2_with fail
  refine (HAW.out _).mono ?_
  rintro e w1 ⟨rfl, k1⟩
  go_wp2_with fail
  refine (HFW.out w1 k1).mono ?_
  rintro e w2 ⟨b, rfl, hb, rfl⟩
  cases b with
  | false =>
    go_wp2_with fail
    refine (HAW.out _).mono ?_
    rintro e w3 ⟨rfl, k3⟩
    go_wp2
    go_ret
    exact ⟨rfl, k1.trans (k3.mono k1.size (fun i hi _ => by have := k1.size; omega))⟩
  | true =>
    have hfew := hb rfl
    clear hb
    by_cases hz : 60 < F.length
    · have hd : decide ((60 : Int) < (F.length : Int)) = true := decide_eq_true (by omega)
      go_wp2_with fail
      refine (HAW.out _).mono ?_
      rintro e w3 ⟨rfl, k3⟩
      go_wp2
      go_ret
      exact ⟨rfl, k1.trans (k3.mono k1.size (fun i hi _ => by have := k1.size; omega))⟩
    · have hd : decide ((60 : Int) < (F.length : Int)) = false := decide_eq_false (by omega)
      obtain ⟨hb1, hb2, hb3⟩ := few_notes hfew
      have hnt := noted_calls L v w2 (HL.out.kept k1) hfew
      have HNT := Lib.hid hnt
      have HFE := Lib.hid hfew
      have HB3 := Lib.hid hb3
      have HK1 := Lib.hid k1
      clear hnt hfew hb3 k1
      go_wp2_with fail
      refine HNT.out.mono ?_
      rintro e w3 ⟨bb, m, rfl, ⟨n, hn, hB⟩, hO, k3⟩
      have hn6 : n < 1000000 := by have := HFE.out.1; omega
      have hK3 : Kept w.heap.size w.heap.size w w3 := HK1.out.trans (k3.mono HK1.out.size (fun i hi _ => by have := HK1.out.size; omega))
      have hfo : Calls Try.prog 21 #[.pointer (some ⟨bb, 0, none⟩), .slice uad F.length uc] w3 fun e w' => ∃ r M, e = .returned r ∧ Hs w' r M ∧ Bk.Is (notes L) F M ∧ Kept w3.heap.size w3.heap.size w3 w' := by
        obtain ⟨S, hB⟩ := hB
        exact follows_book _ _ _ _ _ _ F _ _ hB (HF.out.kept hK3) (by omega) hn6 (by omega) HB3.out
      have hpl : ∀ w', Kept w3.heap.size w3.heap.size w3 w' → Calls Try.prog 20 #[.slice uad F.length uc] w' fun e w2 => ∃ u, e = .returned u ∧ Own w2 w'.heap.size u F ∧ Kept w'.heap.size w'.heap.size w' w2 := fun w' k => plain_calls F _ w' ((HF.out.kept hK3).kept k) (by omega)
      have hrf : ∀ (w' : World) (q : Value), Kept w3.heap.size w3.heap.size w3 w' → Hs w' q F → Calls Try.prog 22 #[m, q] w' fun e w2 => ∃ r M, e = .returned r ∧ Own w2 w'.heap.size r M ∧ Bk.Is (notes L) F M ∧ Kept w'.heap.size w'.heap.size w' w2 := fun w' q k hq => reffollows_calls (notes L) F m q w' (hO.kept k (Nat.le_refl _)).fs hq (by omega) (by omega) HB3.out
      have HFO := Lib.hid hfo
      have HPL := Lib.hid hpl
      have HRF := Lib.hid hrf
      have HK3 := Lib.hid hK3
      have hF60 : F.length ≤ 60 := by omega
      clear hfo hpl hrf hK3 hB hO k3 hz hn hn6
      go_wp2_with fail
      refine HFO.out.mono ?_
      rintro e w4 ⟨r, M, rfl, hM, hI, k4⟩
      have hMl := is_length hI
      have hpm := plain_calls M r w4 hM (by omega)
      have HPM := Lib.hid hpm
      have HI := Lib.hid hI
      have HMl := Lib.hid hMl
      clear hpm hI hMl hM
      go_wp2_with fail
      refine HPM.out.mono ?_
      rintro e w5 ⟨pm, rfl, o5, k5⟩
      have K5 := k4.trans (k5.mono k4.size (fun i hi _ => by have := k4.size; omega))
      have O5 := Lib.hid o5
      clear o5
      go_wp2_with fail
      refine (HPL.out w5 K5).mono ?_
      rintro e w6 ⟨pf, rfl, o6, k6⟩
      have K6 := K5.trans (k6.mono K5.size (fun i hi _ => by have := K5.size; omega))
      have P6 := Lib.hid (O5.out.kept k6 (Nat.le_refl _))
      have hrf6 := HRF.out w6 pf K6 o6.hs
      have HR6 := Lib.hid hrf6
      clear hrf6 o6 O5
      go_wp2_with fail
      refine HR6.out.mono ?_
      rintro e w7 ⟨r2, M2, rfl, o7, hI2, k7⟩
      have K7 := K6.trans (k7.mono K6.size (fun i hi _ => by have := K6.size; omega))
      have hMM : M2 = M := hI2.one HI.out
      subst hMM
      have hal := alike_calls M2 M2 pm r2 w7 (P6.out.kept k7 (Nat.le_refl _)).hs o7.hs (by have := HMl.out; omega) (by have := HMl.out; omega)
      rw [alikeB_refl] at hal
      have HAL := Lib.hid hal
      clear hal o7 hI2
      go_wp2_with fail
      refine HAL.out.mono ?_
      rintro e w8 ⟨rfl, k8⟩
      have K8 := K7.trans (k8.mono K7.size (fun i hi _ => by have := K7.size; omega))
      go_wp2
      go_ret
      exact ⟨rfl, HK3.out.trans (K8.mono HK3.out.size (fun i hi _ => by have := HK3.out.size; omega))⟩

end Go.Proofs.Ytmcnmcnmcpfmiaa
