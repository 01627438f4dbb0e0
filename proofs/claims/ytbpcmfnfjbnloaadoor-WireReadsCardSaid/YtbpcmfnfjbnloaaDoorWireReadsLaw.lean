/-
  The walk of the statement WireReads: the reader and the document's own reader answer alike, whatever is asked of them.
-/
import Derived.Test.YtbpcmfnfjbnloaaDoorWireRefHash
import Derived.Test.YtbpcmfnfjbnloaaDoorWireCutLaw
namespace Go.Proofs.YtbpcmfnfjbnloaaDoor
open Go.RowKit

/-- A slice of takings: its length, and what each is. -/
structure Takes (w : World) (v : Value) (len : Nat) (K : Nat → Nat) (N : Nat → Int) : Prop where
  lenLe : len ≤ 9223372036854775807
  ok : ∀ i, i < len → K i < 256
  ex : ∃ ao cap, v = .slice ao len cap ∧ (0 < len → ∃ g o, ao = some ⟨g, o, none⟩ ∧ g < w.heap.size ∧ ∀ i, i < len → w.rangeAt g (o + i * 2) [.int .u8 (K i), .int .i64 (N i)])
theorem Takes.same {w w' : World} {v : Value} {len : Nat} {K : Nat → Nat} {N : Nat → Int} (h : Takes w v len K N) (k : Kept w.heap.size w.heap.size w w') : Takes w' v len K N := by
  obtain ⟨ao, cap, rfl, hex⟩ := h.ex
  refine ⟨h.lenLe, h.ok, ao, cap, rfl, fun hpos => ?_⟩
  obtain ⟨g, o, rfl, hg, hr⟩ := hex hpos
  refine ⟨g, o, rfl, Nat.lt_of_lt_of_le hg k.size, fun i hi j u hu => ?_⟩
  rw [k.cell (p := ⟨g, o + i * 2 + j, none⟩) hg (by show g ≠ w.heap.size; omega)]
  exact hr i hi j u hu
theorem takes_at {w : World} {v : Value} {len : Nat} {K : Nat → Nat} {N : Nat → Int} (h : Takes w v len K N) (hpos : 0 < len) : ∃ g o cap, v = .slice (some ⟨g, o, none⟩) len cap ∧ (∀ i, i < len → K i < 256) ∧ ∀ i, i < len → w.rangeAt g (o + i * 2) [.int .u8 (K i), .int .i64 (N i)] := by
  obtain ⟨ao, cap, rfl, hex⟩ := h.ex
  obtain ⟨g, o, rfl, _, hr⟩ := hex hpos
  exact ⟨g, o, cap, rfl, h.ok, hr⟩
theorem wireInfo43 : (Tryd.prog.info? 43).map (·.size) = some 2 := by kernel_rfl
theorem Rf.drew {w : World} {c : Nat} {l : List UInt8} {e : Int} (h : Rf w c l e) : Rf w.drew c l e := h.same rfl
theorem end_same (top b : Nat) (l : List UInt8) (e0 : Int) (w : World) (h : Rd w top b l e0) :
    Calls Tryd.prog 28 #[.pointer (some ⟨b, 0, none⟩)] w fun e w' => e = .returned (.int .i64 (gEnd l e0)) ∧ w' = w :=
  (end_all top b l e0 w h).mono fun _ _ ⟨h1, h2⟩ => ⟨h1, h2.symm⟩

set_option maxHeartbeats 6400000 in
set_option maxRecDepth 100000 in
theorem reads_walk (s : ByteArray) (v : Value) (len : Nat) (K : Nat → Nat) (N : Nat → Int) (w : World) (ht : Tab w) (h : Takes w v len K N) :
    Calls Tryd.prog 4 #[.string s, v] w fun e w' => e = .returned (.bool true) ∧ Kept w.heap.size w.heap.size w w' := by
  have hpos := ht.lt
  obtain ⟨ao, cap, rfl, _⟩ := h.ex
  have hlm := h.lenLe
  by_cases h1 : (200000 : Int) < s.size
  · have hd : decide ((200000 : Int) < (s.size : Int)) = true := by rw [decide_eq_true_iff]; exact h1
    clear h1
    go_enter Tryd.func4, Tryd.ntmps4
    go_wp2_with fail
    refine (awake_calls _ ht).mono ?_
    rintro e w1 ⟨rfl, k1⟩
    have hs1 := k1.size
    go_wp2_with fail
    refine (awake_calls _ (ht.kept k1 hpos hpos)).mono ?_
    rintro e w2 ⟨rfl, k2⟩
    go_wp2
    go_ret
    exact ⟨rfl, k1.out k2 hs1 hs1⟩
  · have hd : decide ((200000 : Int) < (s.size : Int)) = false := by rw [decide_eq_false_iff_not]; exact h1
    by_cases h2 : 300 < len
    · have hd2 : decide ((300 : Int) < (len : Int)) = true := by rw [decide_eq_true_iff]; omega
      clear h1 h2
      go_enter Tryd.func4, Tryd.ntmps4
      go_wp2_with fail
      refine (awake_calls _ ht).mono ?_
      rintro e w1 ⟨rfl, k1⟩
      have hs1 := k1.size
      go_wp2_with fail
      refine (awake_calls _ (ht.kept k1 hpos hpos)).mono ?_
      rintro e w2 ⟨rfl, k2⟩
      go_wp2
      go_ret
      exact ⟨rfl, k1.out k2 hs1 hs1⟩
    · have hd2 : decide ((300 : Int) < (len : Int)) = false := by rw [decide_eq_false_iff_not]; omega
      have hlen3 : len ≤ 300 := by omega
      clear h1 h2
      go_enter Tryd.func4, Tryd.ntmps4
      go_wp2_with fail
      refine (awake_calls _ ht).mono ?_
      rintro e w1 ⟨rfl, k1⟩
      have hs1 := k1.size
      go_wp2_with fail
      refine (from_calls s _).mono ?_
      rintro e w2 ⟨rfl, h2, k2, s2⟩
      have kk2 := k1.out k2 hs1 hs1
      have h3 := h2.alloc (.cells #[.string s, .int .i64 0] 41)
      have g3 : Rf (w2.alloc (.cells #[.string s, .int .i64 0] 41)) (w1.heap.size + 2) s.data.toList 0 := by
        have := heap_new w2 (.cells #[.string s, .int .i64 0] 41)
        rw [s2] at this
        exact ⟨⟨s, this, fun _ => (str_of s).symm⟩, fun h => absurd rfl h⟩
      have kk3 := kk2.alloc kk2.size (.cells #[.string s, .int .i64 0] 41)
      clear h2 k2 kk2
      obtain ⟨wo, hwo⟩ : ∃ wo : Nat, wo = w1.heap.size := ⟨_, rfl⟩
      have hwo9 : w.heap.size ≤ wo := by omega
      rw [← hwo] at h3 g3 s2 ⊢
      clear hwo
      go_wp2_with fail
      generalize w2.alloc (.cells #[.string s, .int .i64 0] 41) = w3 at h3 g3 kk3 ⊢
      clear s2
      go_loopw [7] (fun i wr => ∃ (j : Nat) (l : List UInt8) (e : Int), j ≤ len ∧ i = .int .i64 j ∧ Rd wr (wo + 2) (wo + 1) l e ∧ Rf wr (wo + 2) l e ∧ Kept w.heap.size w.heap.size w wr ∧ w.heap.size ≤ wo) (fun i _ => len - (intOf i).toNat)
      case atStart => exact ⟨0, _, _, by omega, rfl, h3, g3, kk3, hwo9⟩
      case round =>
        obtain ⟨j, l, e0, hj, rfl, hR, hF, kr, hwo⟩ := hrel
        by_cases hlt : j < len
        · obtain ⟨gb, o, cap2, hv, hok, hr⟩ := takes_at (h.same kr) (by omega)
          cases hv
          have hkd := hok j hlt
          have hr := Lib.hid (hr j hlt)
          clear hok
          generalize hcs : (#[Value.int .u8 (K j), Value.int .i64 (N j)] : Array Value) = cs
          have hcl : (#[Value.int .u8 (K j), Value.int .i64 (N j)] : Array Value).toList = cs.toList := by rw [hcs]
          have H2 : Hid (cs.size = 2) := Lib.hid (by rw [← hcs]; rfl)
          have h1 : Hid (cs.all (·.oneCell') = true) := Lib.hid (by rw [← hcs]; simp [Value.oneCell'])
          have hr2 : Hid (wr.rangeAt gb (o + j * 2) cs.toList) := Lib.hid (by rw [← hcl]; exact hr.out)
          have hR1 := hR.alloc (.cells cs 43)
          have hF1 := hF.alloc (.cells cs 43)
          have k10 := kr.alloc kr.size (.cells cs 43)
          have d0 : (wr.alloc (.cells cs 43)).cell? ⟨wr.heap.size, 0, none⟩ = some (.int .u8 (K j)) := (World.cell?_alloc_new wr cs _ 0).trans (by rw [← hcs]; rfl)
          have d1 : (wr.alloc (.cells cs 43)).cell? ⟨wr.heap.size, 1, none⟩ = some (.int .i64 (N j)) := (World.cell?_alloc_new wr cs _ 1).trans (by rw [← hcs]; rfl)
          have hsz6 : (wr.alloc (.cells cs 43)).heap.size = wr.heap.size + 1 := by simp
          have hlw := hF.lt
          clear hcl hcs hr hR hF
          go_wp2_with (with_reducible refine wpList_load_mid rfl 43 _ rfl gb (o + j * 2) rfl cs.toList _ hr2.out Tryd.underlying43 rfl (by rw [wireInfo43, Array.length_toList, H2.out]) ?_)
          rw [store_new wr 43 _ cs (by rw [H2.out]; rfl) h1.out]
          generalize hw6 : wr.alloc (.cells cs 43) = w6 at *
          clear hw6
          have ht6 := ht.kept k10 hpos hpos
          have hX1 : wr.heap.size < w6.heap.size := by omega
          have hX2 : wr.heap.size ≠ wo + 1 := by omega
          have hX3 : wo + 2 < w6.heap.size := by omega
          have hX4 : wo + 2 ≠ wo + 1 := by omega
          generalize hkk : K j = kd at *
          clear hkk
          rcases (show kd % 5 = 0 ∨ kd % 5 = 1 ∨ kd % 5 = 2 ∨ kd % 5 = 3 ∨ kd % 5 = 4 by omega) with hk4 | hk4 | hk4 | hk4 | hk4
          · have hmod : (kd : Int) % 5 = 0 := by omega
            clear hk4
            have hW : ∀ w, Rd w (wo + 2) (wo + 1) l e0 → Tab w → Calls Tryd.prog 17 #[.pointer (some ⟨wo + 1, 0, none⟩), .int .i64 (N j)] w fun e w' => NumPost w (wo + 2) (wo + 1) (gNum l e0 (N j)) e w' := fun w h ht => num_all _ _ _ _ _ _ h ht (by omega)
            have hF : ∀ w, Rf w (wo + 2) l e0 → Calls Tryd.prog 18 #[.pointer (some ⟨wo + 2, 0, none⟩), .int .i64 (N j)] w fun e w' => NumFin w (wo + 2) (gNum l e0 (N j)) e w' := fun w h => numrd_all _ _ _ _ _ h
            generalize gNum l e0 (N j) = r at *
            have HW := Lib.hid hW
            have HF := Lib.hid hF
            clear hW hF
            go_wp2_with fail
            go_region_with (first
              | (go_at_call 17; refine (HW.out _ (by first | exact hR1 | exact hR1.drew) (by first | exact ht6 | exact ht6.drew)).mono ?_; rintro e w7 ⟨rfl, h7, k7⟩; have d' := (k7.cell (p := ⟨wr.heap.size, 1, none⟩) hX1 hX2).trans d1; have f7 : Rf w7 (wo + 2) l e0 := hF1.same (k7.block (wo + 2) hX3 hX4))
              | (go_at_call 18; refine (HF.out _ (by first | exact f7 | exact f7.drew)).mono ?_; rintro e w8 ⟨rfl, h8, k8⟩))
            all_goals
              have k7 : Kept w6.heap.size (wo + 1) w6 w7 := by first | exact k7 | exact k7.ofDrew
              have k8 : Kept w7.heap.size (wo + 2) w7 w8 := by first | exact k8 | exact k8.ofDrew
              have R8 : Rd w8 (wo + 2) (wo + 1) r.left r.err := h7.kept k8 h7.le (Nat.le_refl _)
              have K7 := k10.out k7 k10.size (by omega)
              have K8 := K7.out k8 K7.size (by omega)
              have e8 := R8.cells
              have e9 := h8.err
              generalize r.left = l2 at *
              generalize r.err = e2 at *
              go_wp2_with fail
              go_quiet (first
                | (go_at_call 27; exact Calls.quiet_of_same (err_same (wo + 1) e2 _ (by exact e8)))
                | (go_at_call 28; exact Calls.quiet_of_same (end_same (wo + 2) (wo + 1) l2 e2 _ (R8.same (Nat.le_refl _) (fun _ _ => rfl))))
                | (go_at_call 29; exact Calls.quiet_of_same (endrd_all (wo + 2) l2 e2 _ (h8.same rfl))))
              go_wp2
              go_roundw
              case rel => exact ⟨j + 1, l2, e2, by omega, by go_num, R8.same (Nat.le_refl _) (fun _ _ => rfl), h8.same rfl, K8.drewN nq, hwo⟩
              case measure => simp [intOf]; omega
          · have hmod : (kd : Int) % 5 = 1 := by omega
            clear hk4
            have hW : ∀ w, Rd w (wo + 2) (wo + 1) l e0 → Tab w → Calls Tryd.prog 19 #[.pointer (some ⟨wo + 1, 0, none⟩), .int .i64 (N j)] w fun e w' => TextPost w (wo + 2) (wo + 1) (gText l e0 (N j)) e w' := fun w h ht => text_all _ _ _ _ _ _ h ht (by omega)
            have hF : ∀ w, Rf w (wo + 2) l e0 → Calls Tryd.prog 20 #[.pointer (some ⟨wo + 2, 0, none⟩), .int .i64 (N j)] w fun e w' => StrPost w (wo + 2) (gText l e0 (N j)) e w' := fun w h => textrd_all _ _ _ _ _ h
            generalize gText l e0 (N j) = r at *
            have HW := Lib.hid hW
            have HF := Lib.hid hF
            clear hW hF
            go_wp2_with fail
            go_region_with (first
              | (go_at_call 19; refine (HW.out _ (by first | exact hR1 | exact hR1.drew) (by first | exact ht6 | exact ht6.drew)).mono ?_; rintro e w7 ⟨rfl, h7, k7⟩; have d' := (k7.cell (p := ⟨wr.heap.size, 1, none⟩) hX1 hX2).trans d1; have f7 : Rf w7 (wo + 2) l e0 := hF1.same (k7.block (wo + 2) hX3 hX4))
              | (go_at_call 20; refine (HF.out _ (by first | exact f7 | exact f7.drew)).mono ?_; rintro e w8 ⟨rfl, h8, k8⟩))
            all_goals
              have k7 : Kept w6.heap.size (wo + 1) w6 w7 := by first | exact k7 | exact k7.ofDrew
              have k8 : Kept w7.heap.size (wo + 2) w7 w8 := by first | exact k8 | exact k8.ofDrew
              have R8 : Rd w8 (wo + 2) (wo + 1) r.left r.err := h7.kept k8 h7.le (Nat.le_refl _)
              have K7 := k10.out k7 k10.size (by omega)
              have K8 := K7.out k8 K7.size (by omega)
              have e8 := R8.cells
              have e9 := h8.err
              generalize r.left = l2 at *
              generalize r.err = e2 at *
              go_wp2_with fail
              go_quiet (first
                | (go_at_call 27; exact Calls.quiet_of_same (err_same (wo + 1) e2 _ (by exact e8)))
                | (go_at_call 28; exact Calls.quiet_of_same (end_same (wo + 2) (wo + 1) l2 e2 _ (R8.same (Nat.le_refl _) (fun _ _ => rfl))))
                | (go_at_call 29; exact Calls.quiet_of_same (endrd_all (wo + 2) l2 e2 _ (h8.same rfl))))
              go_wp2
              go_roundw
              case rel => exact ⟨j + 1, l2, e2, by omega, by go_num, R8.same (Nat.le_refl _) (fun _ _ => rfl), h8.same rfl, K8.drewN nq, hwo⟩
              case measure => simp [intOf]; omega
          · have hmod : (kd : Int) % 5 = 2 := by omega
            clear hk4
            have hW : ∀ w, Rd w (wo + 2) (wo + 1) l e0 → Tab w → Calls Tryd.prog 21 #[.pointer (some ⟨wo + 1, 0, none⟩)] w fun e w' => HashPost w (wo + 2) (wo + 1) (gHash l e0) e w' := fun w h ht => hash_all _ _ _ _ _ h
            have hF : ∀ w, Rf w (wo + 2) l e0 → Calls Tryd.prog 22 #[.pointer (some ⟨wo + 2, 0, none⟩)] w fun e w' => HashFin w (wo + 2) (gHash l e0) e w' := fun w h => hashrd_all _ _ _ _ h
            have h32 := gHash_length l e0
            generalize gHash l e0 = r at *
            have HW := Lib.hid hW
            have HF := Lib.hid hF
            clear hW hF
            go_wp2_with fail
            refine (HW.out _ hR1 ht6).mono ?_
            rintro e w7 ⟨rfl, h7, k7⟩
            have f7 : Rf w7 (wo + 2) l e0 := hF1.same (k7.block (wo + 2) hX3 hX4)
            go_wp2_with fail
            refine (HF.out _ f7).mono ?_
            rintro e w8 ⟨rfl, h8, k8⟩
            have heq := hash_equalIn w8 r.val r.val h32 h32
            rw [beq_self_eq_true] at heq
            have hm := wireGuard30
            generalize (bcells r.val).toArray = q at *
            all_goals
              have R8 : Rd w8 (wo + 2) (wo + 1) r.left r.err := h7.kept k8 h7.le (Nat.le_refl _)
              have K7 := k10.out k7 k10.size (by omega)
              have K8 := K7.out k8 K7.size (by omega)
              have e8 := R8.cells
              have e9 := h8.err
              generalize r.left = l2 at *
              generalize r.err = e2 at *
              go_wp2_with fail
              go_quiet (first
                | (go_at_call 27; exact Calls.quiet_of_same (err_same (wo + 1) e2 _ (by exact e8)))
                | (go_at_call 28; exact Calls.quiet_of_same (end_same (wo + 2) (wo + 1) l2 e2 _ (R8.same (Nat.le_refl _) (fun _ _ => rfl))))
                | (go_at_call 29; exact Calls.quiet_of_same (endrd_all (wo + 2) l2 e2 _ (h8.same rfl))))
              go_wp2
              go_roundw
              case rel => exact ⟨j + 1, l2, e2, by omega, by go_num, R8.same (Nat.le_refl _) (fun _ _ => rfl), h8.same rfl, K8.drewN nq, hwo⟩
              case measure => simp [intOf]; omega
          · have hmod : (kd : Int) % 5 = 3 := by omega
            clear hk4
            have hW : ∀ w, Rd w (wo + 2) (wo + 1) l e0 → Tab w → Calls Tryd.prog 23 #[.pointer (some ⟨wo + 1, 0, none⟩)] w fun e w' => FlagPost w (wo + 2) (wo + 1) (gFlag l e0) e w' := fun w h ht => flag_all _ _ _ _ _ h
            have hF : ∀ w, Rf w (wo + 2) l e0 → Calls Tryd.prog 24 #[.pointer (some ⟨wo + 2, 0, none⟩)] w fun e w' => FlagFin w (wo + 2) (gFlag l e0) e w' := fun w h => flagrd_all _ _ _ _ h
            generalize gFlag l e0 = r at *
            have HW := Lib.hid hW
            have HF := Lib.hid hF
            clear hW hF
            go_wp2_with fail
            refine (HW.out _ hR1 ht6).mono ?_
            rintro e w7 ⟨rfl, h7, k7⟩
            have f7 : Rf w7 (wo + 2) l e0 := hF1.same (k7.block (wo + 2) hX3 hX4)
            go_wp2_with fail
            refine (HF.out _ f7).mono ?_
            rintro e w8 ⟨rfl, h8, k8⟩
            all_goals
              have R8 : Rd w8 (wo + 2) (wo + 1) r.left r.err := h7.kept k8 h7.le (Nat.le_refl _)
              have K7 := k10.out k7 k10.size (by omega)
              have K8 := K7.out k8 K7.size (by omega)
              have e8 := R8.cells
              have e9 := h8.err
              generalize r.left = l2 at *
              generalize r.err = e2 at *
              go_wp2_with fail
              go_quiet (first
                | (go_at_call 27; exact Calls.quiet_of_same (err_same (wo + 1) e2 _ (by exact e8)))
                | (go_at_call 28; exact Calls.quiet_of_same (end_same (wo + 2) (wo + 1) l2 e2 _ (R8.same (Nat.le_refl _) (fun _ _ => rfl))))
                | (go_at_call 29; exact Calls.quiet_of_same (endrd_all (wo + 2) l2 e2 _ (h8.same rfl))))
              go_wp2
              go_roundw
              case rel => exact ⟨j + 1, l2, e2, by omega, by go_num, R8.same (Nat.le_refl _) (fun _ _ => rfl), h8.same rfl, K8.drewN nq, hwo⟩
              case measure => simp [intOf]; omega
          · have hmod : (kd : Int) % 5 = 4 := by omega
            clear hk4
            go_wp2_with fail
            refine (fail_rd _ _ l e0 (N j) _ hR1).mono ?_
            rintro e w7 ⟨rfl, h7, k7⟩
            have f7 : Rf w7 (wo + 2) l e0 := hF1.same (k7.block (wo + 2) hX3 hX4)
            have d' := (k7.cell (p := ⟨wr.heap.size, 1, none⟩) hX1 hX2).trans d1
            go_wp2_with fail
            refine (failrd_all _ l e0 (N j) _ f7).mono ?_
            rintro e w8 ⟨rfl, h8, k8⟩
            obtain ⟨r, hr⟩ : ∃ r : Wm.Got Int, r = ⟨0, if e0 = 0 ∧ N j ≠ 0 then [] else l, if e0 = 0 then N j else e0⟩ := ⟨_, rfl⟩
            rw [show (if e0 = 0 ∧ N j ≠ 0 then [] else l) = r.left by rw [hr], show (if e0 = 0 then N j else e0) = r.err by rw [hr]] at h7 h8
            clear hr
            all_goals
              have R8 : Rd w8 (wo + 2) (wo + 1) r.left r.err := h7.kept k8 h7.le (Nat.le_refl _)
              have K7 := k10.out k7 k10.size (by omega)
              have K8 := K7.out k8 K7.size (by omega)
              have e8 := R8.cells
              have e9 := h8.err
              generalize r.left = l2 at *
              generalize r.err = e2 at *
              go_wp2_with fail
              go_quiet (first
                | (go_at_call 27; exact Calls.quiet_of_same (err_same (wo + 1) e2 _ (by exact e8)))
                | (go_at_call 28; exact Calls.quiet_of_same (end_same (wo + 2) (wo + 1) l2 e2 _ (R8.same (Nat.le_refl _) (fun _ _ => rfl))))
                | (go_at_call 29; exact Calls.quiet_of_same (endrd_all (wo + 2) l2 e2 _ (h8.same rfl))))
              go_wp2
              go_roundw
              case rel => exact ⟨j + 1, l2, e2, by omega, by go_num, R8.same (Nat.le_refl _) (fun _ _ => rfl), h8.same rfl, K8.drewN nq, hwo⟩
              case measure => simp [intOf]; omega
        · obtain rfl : j = len := by omega
          go_wp2
          go_ret
          exact ⟨rfl, kr⟩

end Go.Proofs.YtbpcmfnfjbnloaaDoor
