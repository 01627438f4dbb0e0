/-
  The document's Unpack of a row.
-/
import Derived.Test.YtdnnccnicaoniaaDoorGW
import Derived.Test.YtdnnccnicaoniaaDoorWireRefAll
import Derived.Test.YtdnnccnicaoniaaDoorWireRefMore
import Derived.Test.YtdnnccnicaoniaaDoorWireRefHash

namespace Go.Proofs.YtdnnccnicaoniaaDoor
open Go.RowKit Go.Lib

theorem Pp.At.bad {bits : Nat} {lb : List UInt8} {k k' free free' : Nat} {D D' : List Sd} {l l' : List UInt8} {e : Int} (h : Pp.At bits lb k free D l e) (he : e ≠ 0) : Pp.At bits lb k' free' D' l' e := by
  rcases h with ⟨h, _⟩ | ⟨h, h2⟩
  · exact absurd h he
  · exact .inr ⟨h, h2⟩
set_option maxRecDepth 100000 in
theorem alloc_h32 (w : World) : (Instr.alloc 22 true (.tuple #[])).run Tryd.prog w = .ok (.pointer (some ⟨w.heap.size, 0, none⟩)) (w.alloc (.cells zeros32 22)) := by
  rw [← zeros32_eq]
  kernel_rfl
theorem OwnR.stay {w w' : World} {base : Nat} {v : Value} {L : List Sd} (h : OwnR w base v L) (hs : ∀ k, v.ownBlock = some k → w'.heap[k]? = w.heap[k]?) : OwnR w' base v L := by
  refine ⟨h.1, h.2.1, ?_⟩
  rcases h.2.2 with h1 | ⟨g, cap, cur, rfl, hb2, hh, rest⟩
  · exact .inl h1
  · exact .inr ⟨g, cap, cur, rfl, hb2, (hs g rfl).trans hh, rest⟩

theorem gHash_errv (l : List UInt8) (e : Int) (h : e ≠ 0) : (gHash l e).err = e := by rw [Pp.gHash_err _ _ h]
theorem wpL_run_build {P : Program} {ops : Array Oper} {rest : List Oper} {o : Oper} {a : Act} {w w' : World} {Q : Exit → Act → World → Prop} (hgd : o.guard = none) (x : Operand) (t : TypeId) (ho : o.op = .buildSlice t 1 #[(0, x)]) (v : Value) {u : Value} (hx : a.eval x = v) (hr : (Instr.buildSlice t 1 #[(0, v)]).run P w = .ok u w') (hk : wpList P ops Q rest (a.put o.dst u) w') : wpList P ops Q (o :: rest) a w :=
  wpList_plain hgd fun _ hK => wp_build_run x t ho v hx hr (hK _ _ hk)
/-- The memory of the document's Unpack. -/
structure Ur (w0 w : World) (c : Nat) (l : List UInt8) (e : Int) (v : Value) (D : List Sd) : Prop where
  rf : Rf w c l e
  own : OwnR w (c + 1) v D
  kept : Kept w0.heap.size w0.heap.size w0 w
  low : w0.heap.size ≤ c
theorem Ur.step {w0 w w' : World} {c : Nat} {l : List UInt8} {e : Int} {v : Value} {D : List Sd} (h : Ur w0 w c l e v D) (k : Kept w.heap.size w.heap.size w w') : Ur w0 w' c l e v D where
  rf := h.rf.kept k h.rf.lt (Nat.ne_of_lt h.rf.lt)
  own := h.own.kept k (Nat.le_refl _)
  kept := h.kept.next1 k
  low := h.low
theorem Ur.read {w0 w w' : World} {c : Nat} {l l' : List UInt8} {e e' : Int} {v : Value} {D : List Sd} (h : Ur w0 w c l e v D) (hr : Rf w' c l' e') (k : Kept w.heap.size c w w') : Ur w0 w' c l' e' v D where
  rf := hr
  own := h.own.stay (fun q hq => by
    have h1 := h.own.2.lt q hq
    exact k.block q h1.2 (by omega))
  kept := h.kept.trans (k.mono h.kept.size (fun q hq _ => by have := h.low; omega))
  low := h.low
theorem Rf.at {w : World} {c : Nat} {l : List UInt8} {e : Int} (h : Rf w c l e) : w.cell? ⟨c, 1, none⟩ = some (.int .i64 e) := by
  obtain ⟨s, h1, _⟩ := h.ex
  exact two_cell1 h1

set_option maxRecDepth 100000 in
set_option maxHeartbeats 12800000 in
theorem refunpack_calls (bits : Nat) (hb : bits ≤ 32) (s : ByteArray) (w : World) :
    Calls Tryd.prog 16 #[.string s, .int .i64 (bits : Int)] w fun e w' => ∃ v, e = .returned (.tuple #[v, .int .i64 (Pp.allErr bits s.data.toList)]) ∧ Kept w.heap.size w.heap.size w w' ∧ ∃ D, Ss w' v D ∧ (Pp.allErr bits s.data.toList = 0 → D = (Pp.all bits s.data.toList).1) := by
  have HB := Lib.hid hb
  have hbi : (bits : Int) ≤ 32 := by omega
  obtain ⟨lb, hlb⟩ : ∃ lb, lb = s.data.toList := ⟨_, rfl⟩
  have HLB := Lib.hid (show s = str lb by rw [hlb, str_of])
  rw [← hlb]
  clear hlb hb
  go_enter Tryd.func16, Tryd.ntmps16
  go_upto_region 2 with fail
  have hu1 : Ur w (w.alloc (.cells #[.string s, .int .i64 0] 78)) w.heap.size lb 0 (.slice none 0 0) [] :=
    ⟨⟨⟨s, heap_new _ _, fun _ => HLB.out⟩, fun h => absurd rfl h⟩, ⟨(fun _ h => nomatch h), World.ownsRow_nil _ _ _ _⟩, (Kept.refl _ _ _).alloc (Nat.le_refl _) _, Nat.le_refl _⟩
  have U1 := Lib.hid hu1
  clear hu1
  generalize w.alloc (.cells #[.string s, .int .i64 0] 78) = w1 at U1 ⊢
  obtain ⟨c, hc⟩ : ∃ c, c = w.heap.size := ⟨_, rfl⟩
  rw [← hc] at U1 ⊢
  clear hc
  refine wp_region_lit ?_
  refine @BigFrame.wpList_want _ _ _ _ _ _ _ ?hw8002 ?_
  case hw8002 => kernel_rfl
  intro K hK
  go_simp
  refine hK _ _ ?_
  clear hK K
  refine @BigFrame.wpList_want _ _ _ _ _ _ _ ?hw8001 ?_
  case hw8001 => kernel_rfl
  intro K hK
  go_simp
  go_at_call 35
  refine (numrd_all c lb 0 65536 w1 U1.out.rf).mono ?_
  rintro e w2 ⟨rfl, rf2, k2⟩
  have U2 := Lib.hid (U1.out.read rf2 k2)
  clear rf2 k2
  refine hK _ _ ?_
  clear hK K
  refine @BigFrame.wpList_want _ _ _ _ _ _ _ ?hw8003 ?_
  case hw8003 => kernel_rfl
  intro K hK
  go_simp
  refine hK _ _ ?_
  clear hK K
  have hcn : ((Pp.cntOf lb : Nat) : Int) = (gNum lb 0 65536).val := Int.toNat_of_nonneg (Pp.gNum_val lb 0 65536).1
  rw [← hcn]
  have HAT : Hid (Pp.At bits lb (Pp.cntOf lb) 0 [] (gNum lb 0 65536).left (gNum lb 0 65536).err) := Lib.hid (by
    unfold Pp.At Pp.all
    by_cases h : (gNum lb 0 65536).err = 0
    · exact .inl ⟨h, by rw [if_pos h]; rfl⟩
    · exact .inr ⟨h, by rw [if_neg h]⟩)
  have HCN : Hid (Pp.cntOf lb ≤ 65536) := Lib.hid (by
    by_cases h : (gNum lb 0 65536).err = 0
    · have e1 : gNum lb 0 65536 = Wm.rNum lb 65536 := by rw [gNum, if_pos rfl]
      have := Wm.rNum_le lb 65536 (by rw [← e1]; exact h)
      rw [← e1] at this
      unfold Pp.cntOf
      omega
    · have := (Pp.gNum_fail lb 0 65536 h).1
      unfold Pp.cntOf
      rw [this]
      decide)
  generalize (gNum lb 0 65536).left = l0 at U2 HAT
  generalize (gNum lb 0 65536).err = e0 at U2 HAT
  generalize Pp.cntOf lb = n0 at HAT HCN ⊢
  clear hcn
  go_wp2_with fail
  go_loopw [8, 9, 10] (fun s8 s9 s10 wx => ∃ i : Nat, s10 = .int .i64 (i : Int) ∧ ∃ free : Nat, s9 = .int .i64 (free : Int) ∧ ∃ v : Value, s8 = v ∧ ∃ (D : List Sd) (l : List UInt8) (e : Int), Hid (i ≤ n0) ∧ Hid (free ≤ 8589934592) ∧ Hid (Pp.At bits lb (n0 - i) free D l e) ∧ Hid (D.length ≤ i) ∧ Hid (Ur w wx c l e v D)) (fun _ _ s10 _ => n0 - (RowKit.intOf s10).toNat)
  case atStart => exact ⟨0, rfl, 0, rfl, _, rfl, [], l0, e0, Lib.hid (Nat.zero_le _), Lib.hid (by decide), HAT, Lib.hid (Nat.le_refl _), U2⟩
  case round =>
    obtain ⟨i, rfl, free, rfl, v, rfl, D, l, e, HI, HFR, HA, HD, HU⟩ := hrel
    have HEN := Lib.hid (fun (hk : e = 0 → n0 - i = 0) => HA.out.done hk)
    have HE2 := Lib.hid (endrd_all c l e wr HU.out.rf)
    have HC1 := Lib.hid HU.out.rf.at
    obtain ⟨vad, vn, vc, hvs⟩ : ∃ vad vn vc, u8 = .slice vad vn vc := by
      obtain ⟨a1, g1, o1, c1, hv, _⟩ := HU.out.own.ss
      exact ⟨_, _, _, hv⟩
    subst hvs
    by_cases hk : i < n0
    · have hki : (i : Int) < (n0 : Int) := by omega
      have HK := Lib.hid hk
      have hn0 : (n0 : Int) ≤ 65536 := by have := HCN.out; omega
      clear hk
      by_cases he : e = 0
      · subst he
        have c1 := HC1.out
        go_upto_region 6 with fail
        refine wp_region_lit ?_
        refine @BigFrame.wpList_want _ _ _ _ _ _ _ ?hw8009 ?_
        case hw8009 => kernel_rfl
        intro K hK
        go_simp
        refine hK _ _ ?_
        clear hK K
        refine @BigFrame.wpList_want _ _ _ _ _ _ _ ?hw8010 ?_
        case hw8010 => kernel_rfl
        intro K hK
        go_simp
        refine hK _ _ ?_
        clear hK K
        refine @BigFrame.wpList_want _ _ _ _ _ _ _ ?hw8011 ?_
        case hw8011 => kernel_rfl
        intro K hK
        go_simp
        refine hK _ _ ?_
        clear hK K
        refine @BigFrame.wpList_want _ _ _ _ _ _ _ ?hw8012 ?_
        case hw8012 => kernel_rfl
        intro K hK
        go_simp
        refine hK _ _ ?_
        clear hK K
        refine @BigFrame.wpList_want _ _ _ _ _ _ _ ?hw8013 ?_
        case hw8013 => kernel_rfl
        intro K hK
        go_simp
        refine hK _ _ ?_
        clear hK K
        refine @BigFrame.wpList_want _ _ _ _ _ _ _ ?hw8014 ?_
        case hw8014 => kernel_rfl
        intro K hK
        go_simp
        refine hK _ _ ?_
        clear hK K
        refine @BigFrame.wpList_want _ _ _ _ _ _ _ ?hw8015 ?_
        case hw8015 => kernel_rfl
        intro K hK
        go_simp
        refine hK _ _ ?_
        clear hK K
        refine @BigFrame.wpList_want _ _ _ _ _ _ _ ?hw8016 ?_
        case hw8016 => kernel_rfl
        intro K hK
        go_simp
        refine hK _ _ ?_
        clear hK K
        refine @BigFrame.wpList_want _ _ _ _ _ _ _ ?hw8017 ?_
        case hw8017 => kernel_rfl
        intro K hK
        go_simp
        refine hK _ _ ?_
        clear hK K
        refine @BigFrame.wpList_want _ _ _ _ _ _ _ ?hw8018 ?_
        case hw8018 => kernel_rfl
        intro K hK
        go_simp
        refine hK _ _ ?_
        clear hK K
        clear c1
        have HNX := Lib.hid (show Pp.At bits lb (n0 - (i + 1)) (Pp.stop bits (Pp.rd bits l free).s) (D ++ [(Pp.rd bits l free).s]) (Pp.rd bits l free).l (Pp.rd bits l free).e from Pp.At.next (by have h := HA.out; have := HK.out; rwa [show n0 - i = n0 - (i + 1) + 1 by omega] at h))
        have HIN := Lib.hid (Pp.rd_in bits l free)
        obtain ⟨r, hrd⟩ : ∃ r, r = Pp.rd bits l free := ⟨_, rfl⟩
        obtain ⟨L, hL⟩ : ∃ L, L = Pp.lev l := ⟨_, rfl⟩
        obtain ⟨PL, hPL⟩ : ∃ PL, PL = (Pp.r2 l).val.toNat := ⟨_, rfl⟩
        obtain ⟨l1, hl1⟩ : ∃ l1, l1 = (gNum l 0 Pp.MX).left := ⟨_, rfl⟩
        obtain ⟨e1, he1⟩ : ∃ e1, e1 = (gNum l 0 Pp.MX).err := ⟨_, rfl⟩
        obtain ⟨l2, hl2⟩ : ∃ l2, l2 = (Pp.r2 l).left := ⟨_, rfl⟩
        obtain ⟨e2, he2⟩ : ∃ e2, e2 = (Pp.r2 l).err := ⟨_, rfl⟩
        obtain ⟨hh, hhh⟩ : ∃ hh, hh = (gHash l2 e2).val := ⟨_, rfl⟩
        obtain ⟨l3, hl3⟩ : ∃ l3, l3 = (gHash l2 e2).left := ⟨_, rfl⟩
        obtain ⟨e3, he3⟩ : ∃ e3, e3 = (gHash l2 e2).err := ⟨_, rfl⟩
        obtain ⟨x1, hx1⟩ : ∃ x1 : Int, x1 = if e1 = 0 then 3 else e1 := ⟨_, rfl⟩
        have rA : bits < L → r.e = x1 := fun h => by rw [hrd, Pp.rd, if_pos (by rw [← hL]; exact h), hx1, he1]
        have rB0 : ¬ bits < L → e2 ≠ 0 → r.e = e2 := fun h h2 => by
          rw [hrd, Pp.rd, if_neg (by rw [← hL]; exact h)]
          split
          · show (if (Pp.r2 l).err = 0 then (3 : Int) else (Pp.r2 l).err) = e2
            rw [← he2, if_neg h2]
          · show (gHash (Pp.r2 l).left (Pp.r2 l).err).err = e2
            rw [← he2, gHash_errv _ _ h2]
        have rB : ¬ bits < L → e2 = 0 → (2 ^ L ≤ PL ∨ PL * 2 ^ (bits - L) < free) → r.e = 3 := fun h h0 h2 => by rw [hrd, Pp.rd, if_neg (by rw [← hL]; exact h), if_pos (by rw [← hL, ← hPL]; exact h2), ← he2, if_pos h0]
        have rC : ¬ bits < L → ¬ (2 ^ L ≤ PL ∨ PL * 2 ^ (bits - L) < free) → r = ⟨e3, ⟨L, PL, hh⟩, l3⟩ := fun h h2 => by rw [hrd, Pp.rd, if_neg (by rw [← hL]; exact h), if_neg (by rw [← hL, ← hPL]; exact h2), he3, hl3, hhh, hl2, he2, hL, hPL]
        have HX1 := Lib.hid (show x1 ≠ 0 by rw [hx1]; split; decide; assumption)
        have HN1 := Lib.hid (fun (v : World) (h : Rf v c l 0) => (numrd_all c l 0 Pp.MX v h).mono (fun e w' (h : NumFin v c (gNum l 0 Pp.MX) e w') => show e = .returned (.int .i64 (L : Int)) ∧ Rf w' c l1 e1 ∧ Kept v.heap.size c v w' from by
          obtain ⟨rfl, h2, h3⟩ := h
          rw [hL, Pp.lev_cast, hl1, he1]
          exact ⟨rfl, h2, h3⟩))
        have HN2 := Lib.hid (fun (v : World) (h : Rf v c l1 e1) => (numrd_all c l1 e1 Pp.MX v h).mono (fun e w' (h : NumFin v c (gNum l1 e1 Pp.MX) e w') => show e = .returned (.int .i64 (PL : Int)) ∧ Rf w' c l2 e2 ∧ Kept v.heap.size c v w' from by
          obtain ⟨rfl, h2, h3⟩ := h
          rw [hl1, he1] at h2 ⊢
          rw [hPL, Pp.r2_cast, hl2, he2]
          exact ⟨rfl, h2, h3⟩))
        have HHS := Lib.hid (fun (v : World) (h : Rf v c l2 e2) => (hashrd_all c l2 e2 v h).mono (fun e w' (h : HashFin v c (gHash l2 e2) e w') => show e = .returned (.agg (bcells hh).toArray) ∧ Rf w' c l3 e3 ∧ Kept v.heap.size c v w' from by
          obtain ⟨rfl, h2, h3⟩ := h
          rw [hhh, hl3, he3]
          exact ⟨rfl, h2, h3⟩))
        have HNB := Lib.hid (fun (x : Int) (hx : x ≠ 0) (v : World) (h : Rf v c [] x) => (numrd_all c [] x Pp.MX v h).mono (fun e w' (h : NumFin v c (gNum [] x Pp.MX) e w') => show e = .returned (.int .i64 0) ∧ Rf w' c [] x ∧ Kept v.heap.size c v w' from by
          rw [Pp.gNum_err _ _ _ hx] at h
          exact h))
        have HHB := Lib.hid (fun (x : Int) (hx : x ≠ 0) (v : World) (h : Rf v c [] x) => (hashrd_all c [] x v h).mono (fun e w' (h : HashFin v c (gHash [] x) e w') => show e = .returned (.agg zeros32) ∧ Rf w' c [] x ∧ Kept v.heap.size c v w' from by
          rw [Pp.gHash_err _ _ hx] at h
          exact h))
        have HF1 := Lib.hid (fun (v : World) (h : Rf v c l1 e1) => (failrd_all c l1 e1 3 v h).mono (fun e w' (hq : _ ∧ _ ∧ _) => show e = .returned (.tuple #[]) ∧ Rf w' c [] x1 ∧ Kept v.heap.size c v w' from by
          obtain ⟨rfl, h2, h3⟩ := hq
          have e0 : (if e1 = 0 ∧ (3 : Int) ≠ 0 then [] else l1) = [] := by
            split
            · rfl
            · rename_i hn
              exact h.fail (fun h0 => hn ⟨h0, by decide⟩)
          rw [e0, ← hx1] at h2
          exact ⟨rfl, h2, h3⟩))
        have HF2 := Lib.hid (fun (v : World) (h : Rf v c l2 0) => (failrd_all c l2 0 3 v h).mono (fun e w' (hq : _ ∧ _ ∧ _) => show e = .returned (.tuple #[]) ∧ Rf w' c [] 3 ∧ Kept v.heap.size c v w' from by
          obtain ⟨rfl, h2, h3⟩ := hq
          rw [if_pos ⟨rfl, by decide⟩, if_pos rfl] at h2
          exact ⟨rfl, h2, h3⟩))
        have HL2 := Lib.hid (show e2 ≠ 0 → l2 = [] from fun h => by rw [hl2]; exact (Pp.gNum_fail _ _ _ (by rw [he2] at h; exact h)).2)
        have HG2 := Lib.hid (show e2 ≠ 0 → hh = List.replicate 32 0 ∧ l3 = [] ∧ e3 = e2 from fun h => by rw [hhh, hl3, he3, Pp.gHash_err _ _ h]; exact ⟨rfl, rfl, rfl⟩)
        have HL3 := Lib.hid (show e3 ≠ 0 → l3 = [] from fun h => by rw [hl3]; exact Pp.gHash_fail _ _ (by rw [he3] at h; exact h))
        have RA := Lib.hid rA
        have RB0 := Lib.hid rB0
        have RB := Lib.hid rB
        have RC := Lib.hid rC
        have HHL := Lib.hid (show hh.length = 32 by rw [hhh]; exact gHash_length _ _)
        have hL0 : (L : Int) ≤ 4611686018427387903 := by rw [hL, Pp.lev_cast]; exact (Pp.gNum_val l 0 Pp.MX).2
        have hP0 : (PL : Int) ≤ 4611686018427387903 := by rw [hPL, Pp.r2_cast]; exact (Pp.gNum_val _ _ Pp.MX).2
        rw [← hrd] at HNX HIN
        clear rA rB0 rB rC hrd hL hPL hl1 he1 hl2 he2 hhh hl3 he3 hx1
        go_upto_region 8 with fail
        refine wp_region_lit ?_
        refine @BigFrame.wpList_want _ _ _ _ _ _ _ ?hw8020 ?_
        case hw8020 => kernel_rfl
        intro K hK
        go_simp
        refine hK _ _ ?_
        clear hK K
        refine @BigFrame.wpList_want _ _ _ _ _ _ _ ?hw8019 ?_
        case hw8019 => kernel_rfl
        intro K hK
        go_simp
        go_at_call 35
        refine (HN1.out _ HU.out.rf).mono ?_
        rintro e2 w3 ⟨rfl, rf3, k3⟩
        have U3 := Lib.hid (HU.out.read rf3 k3)
        clear rf3 k3
        refine hK _ _ ?_
        clear hK K
        refine @BigFrame.wpList_want _ _ _ _ _ _ _ ?hw8021 ?_
        case hw8021 => kernel_rfl
        intro K hK
        go_simp
        refine hK _ _ ?_
        clear hK K
        by_cases hA : bits < L
        · have HA1 := Lib.hid hA
          have hgt : (L : Int) > (bits : Int) := by omega
          clear hA
          go_upto_region 10 with fail
          refine wp_region_lit ?_
          refine @BigFrame.wpList_want _ _ _ _ _ _ _ ?hw8023 ?_
          case hw8023 => kernel_rfl
          intro K hK
          go_simp
          refine hK _ _ ?_
          clear hK K
          refine @BigFrame.wpList_want _ _ _ _ _ _ _ ?hw8022 ?_
          case hw8022 => kernel_rfl
          intro K hK
          go_simp
          go_at_call 36
          refine (HF1.out _ U3.out.rf).mono ?_
          rintro e9 w4 ⟨rfl, rf4, k4⟩
          have U4 := Lib.hid (U3.out.read rf4 k4)
          clear rf4 k4
          refine hK _ _ ?_
          clear hK K
          go_upto_region 11 with fail
          refine wp_region_lit ?_
          refine @BigFrame.wpList_want _ _ _ _ _ _ _ ?hw8025 ?_
          case hw8025 => kernel_rfl
          intro K hK
          go_simp
          refine hK _ _ ?_
          clear hK K
          refine @BigFrame.wpList_want _ _ _ _ _ _ _ ?hw8024 ?_
          case hw8024 => kernel_rfl
          intro K hK
          go_simp
          go_at_call 35
          refine (HNB.out x1 HX1.out _ U4.out.rf).mono ?_
          rintro e9 w5 ⟨rfl, rf5, k5⟩
          have U5 := Lib.hid (U4.out.read rf5 k5)
          clear rf5 k5
          refine hK _ _ ?_
          clear hK K
          refine @BigFrame.wpList_want _ _ _ _ _ _ _ ?hw8026 ?_
          case hw8026 => kernel_rfl
          intro K hK
          go_simp
          refine hK _ _ ?_
          clear hK K
          have cx := U5.out.rf.at
          have hxi : (x1 == 0) = false := by rw [beq_eq_false_iff_ne]; exact HX1.out
          go_upto_region 12 with fail
          refine wp_region_lit ?_
          refine @BigFrame.wpList_want _ _ _ _ _ _ _ ?hw8027 ?_
          case hw8027 => kernel_rfl
          intro K hK
          go_simp
          refine hK _ _ ?_
          clear hK K
          refine @BigFrame.wpList_want _ _ _ _ _ _ _ ?hw8028 ?_
          case hw8028 => kernel_rfl
          intro K hK
          go_simp
          refine hK _ _ ?_
          clear hK K
          refine @BigFrame.wpList_want _ _ _ _ _ _ _ ?hw8029 ?_
          case hw8029 => kernel_rfl
          intro K hK
          go_simp
          refine hK _ _ ?_
          clear hK K
          refine @BigFrame.wpList_want _ _ _ _ _ _ _ ?hw8030 ?_
          case hw8030 => kernel_rfl
          intro K hK
          go_simp
          refine hK _ _ ?_
          clear hK K
          refine @BigFrame.wpList_want _ _ _ _ _ _ _ ?hw8031 ?_
          case hw8031 => kernel_rfl
          intro K hK
          go_simp
          refine hK _ _ ?_
          clear hK K
          refine @BigFrame.wpList_want _ _ _ _ _ _ _ ?hw8032 ?_
          case hw8032 => kernel_rfl
          intro K hK
          go_simp
          refine hK _ _ ?_
          clear hK K
          refine @wpList_skip _ _ _ _ _ _ _ ?hw8033 ?_
          case hw8033 => kernel_rfl
          simp only [Act.put, List.setIfInBounds_toArray, List.set_cons_zero, List.set_cons_succ]
          refine @wpList_skip _ _ _ _ _ _ _ ?hw8034 ?_
          case hw8034 => kernel_rfl
          simp only [Act.put, List.setIfInBounds_toArray, List.set_cons_zero, List.set_cons_succ]
          refine @wpList_skip _ _ _ _ _ _ _ ?hw8035 ?_
          case hw8035 => kernel_rfl
          simp only [Act.put, List.setIfInBounds_toArray, List.set_cons_zero, List.set_cons_succ]
          refine @wpList_skip _ _ _ _ _ _ _ ?hw8036 ?_
          case hw8036 => kernel_rfl
          simp only [Act.put, List.setIfInBounds_toArray, List.set_cons_zero, List.set_cons_succ]
          refine @wpList_skip _ _ _ _ _ _ _ ?hw8037 ?_
          case hw8037 => kernel_rfl
          simp only [Act.put, List.setIfInBounds_toArray, List.set_cons_zero, List.set_cons_succ]
          refine @wpList_skip _ _ _ _ _ _ _ ?hw8038 ?_
          case hw8038 => kernel_rfl
          simp only [Act.put, List.setIfInBounds_toArray, List.set_cons_zero, List.set_cons_succ]
          refine @wpList_skip _ _ _ _ _ _ _ ?hw8039 ?_
          case hw8039 => kernel_rfl
          simp only [Act.put, List.setIfInBounds_toArray, List.set_cons_zero, List.set_cons_succ]
          refine @wpList_skip _ _ _ _ _ _ _ ?hw8040 ?_
          case hw8040 => kernel_rfl
          simp only [Act.put, List.setIfInBounds_toArray, List.set_cons_zero, List.set_cons_succ]
          refine @wpList_skip _ _ _ _ _ _ _ ?hw8041 ?_
          case hw8041 => kernel_rfl
          simp only [Act.put, List.setIfInBounds_toArray, List.set_cons_zero, List.set_cons_succ]
          refine @wpList_skip _ _ _ _ _ _ _ ?hw8042 ?_
          case hw8042 => kernel_rfl
          simp only [Act.put, List.setIfInBounds_toArray, List.set_cons_zero, List.set_cons_succ]
          refine @wpList_skip _ _ _ _ _ _ _ ?hw8043 ?_
          case hw8043 => kernel_rfl
          simp only [Act.put, List.setIfInBounds_toArray, List.set_cons_zero, List.set_cons_succ]
          refine @wpList_skip _ _ _ _ _ _ _ ?hw8044 ?_
          case hw8044 => kernel_rfl
          simp only [Act.put, List.setIfInBounds_toArray, List.set_cons_zero, List.set_cons_succ]
          refine @wpList_skip _ _ _ _ _ _ _ ?hw8045 ?_
          case hw8045 => kernel_rfl
          simp only [Act.put, List.setIfInBounds_toArray, List.set_cons_zero, List.set_cons_succ]
          refine @wpList_skip _ _ _ _ _ _ _ ?hw8046 ?_
          case hw8046 => kernel_rfl
          simp only [Act.put, List.setIfInBounds_toArray, List.set_cons_zero, List.set_cons_succ]
          refine @BigFrame.wpList_want _ _ _ _ _ _ _ ?hw8047 ?_
          case hw8047 => kernel_rfl
          intro K hK
          go_simp
          refine hK _ _ ?_
          clear hK K
          clear cx
          go_upto_region 14 with fail
          refine wp_region_lit ?_
          refine @BigFrame.wpList_want _ _ _ _ _ _ _ ?hw8049 ?_
          case hw8049 => kernel_rfl
          intro K hK
          go_simp
          refine hK _ _ ?_
          clear hK K
          refine @BigFrame.wpList_want _ _ _ _ _ _ _ ?hw8048 ?_
          case hw8048 => kernel_rfl
          intro K hK
          go_simp
          go_at_call 37
          refine (HHB.out x1 HX1.out _ U5.out.rf).mono ?_
          rintro e9 w6 ⟨rfl, rfh, kh⟩
          have U6 := Lib.hid (U5.out.read rfh kh)
          clear rfh kh
          refine hK _ _ ?_
          clear hK K
          refine @wpL_alloc _ _ _ _ _ _ _ _ ?hw8050 22 rfl _ (alloc_h32 _) ?_
          case hw8050 => kernel_rfl
          simp only [Act.put, List.setIfInBounds_toArray, List.set_cons_zero, List.set_cons_succ]
          refine wpList_store_row rfl 22 _ _ rfl (w6.heap.size) zeros32 rfl rfl 22 zeros32 (heap_new _ _) (by rw [wireInfo29]; rfl) (rfl) (zeros32_all) ?_
          simp only [Act.put]
          rw [World.setRow_alloc_new]
          have kk : Kept w6.heap.size w6.heap.size w6 (w6.alloc (.cells zeros32 22)) := (Kept.refl _ _ _).alloc (Nat.le_refl _) _
          have U7 := Lib.hid (U6.out.step kk)
          have Z7 := Lib.hid (heap_new w6 (.cells zeros32 22))
          clear kk
          generalize w6.alloc (.cells zeros32 22) = w7 at U7 Z7 ⊢
          obtain ⟨zb, hzb⟩ : ∃ zb, zb = w6.heap.size := ⟨_, rfl⟩
          rw [← hzb] at Z7 ⊢
          clear hzb
          have cx := U7.out.rf.at
          go_upto_region 15 with fail
          refine wp_region_lit ?_
          refine @BigFrame.wpList_want _ _ _ _ _ _ _ ?hw8051 ?_
          case hw8051 => kernel_rfl
          intro K hK
          go_simp
          refine hK _ _ ?_
          clear hK K
          refine @BigFrame.wpList_want _ _ _ _ _ _ _ ?hw8052 ?_
          case hw8052 => kernel_rfl
          intro K hK
          go_simp
          refine hK _ _ ?_
          clear hK K
          refine @BigFrame.wpList_want _ _ _ _ _ _ _ ?hw8053 ?_
          case hw8053 => kernel_rfl
          intro K hK
          go_simp
          refine hK _ _ ?_
          clear hK K
          refine @BigFrame.wpList_want _ _ _ _ _ _ _ ?hw8054 ?_
          case hw8054 => kernel_rfl
          intro K hK
          go_simp
          refine hK _ _ ?_
          clear hK K
          refine @BigFrame.wpList_want _ _ _ _ _ _ _ ?hw8055 ?_
          case hw8055 => kernel_rfl
          intro K hK
          go_simp
          refine hK _ _ ?_
          clear hK K
          clear cx hxi
          go_wp2
          go_roundw
          case rel => exact ⟨i + 1, by simp, free, rfl, _, rfl, D, [], x1, Lib.hid (by have := HK.out; omega), HFR, Lib.hid (by have h := RA.out HA1.out; have h2 := HNX.out; rw [h] at h2; exact h2.bad HX1.out), Lib.hid (by have := HD.out; omega), U7⟩
          case measure => have := HK.out; simp [RowKit.intOf]; omega
        · have HA1 := Lib.hid hA
          have hgt : ¬ (L : Int) > (bits : Int) := by omega
          have hL32 : (L : Int) ≤ 32 := by omega
          have HLb := Lib.hid (show L ≤ bits by omega)
          clear hA
          go_upto_region 11 with fail
          refine wp_region_lit ?_
          refine @BigFrame.wpList_want _ _ _ _ _ _ _ ?hw8057 ?_
          case hw8057 => kernel_rfl
          intro K hK
          go_simp
          refine hK _ _ ?_
          clear hK K
          refine @BigFrame.wpList_want _ _ _ _ _ _ _ ?hw8056 ?_
          case hw8056 => kernel_rfl
          intro K hK
          go_simp
          go_at_call 35
          refine (HN2.out _ U3.out.rf).mono ?_
          rintro e9 w4 ⟨rfl, rf4, k4⟩
          have U4 := Lib.hid (U3.out.read rf4 k4)
          clear rf4 k4
          refine hK _ _ ?_
          clear hK K
          refine @BigFrame.wpList_want _ _ _ _ _ _ _ ?hw8058 ?_
          case hw8058 => kernel_rfl
          intro K hK
          go_simp
          refine hK _ _ ?_
          clear hK K
          by_cases hB0 : e2 = 0
          · subst hB0
            have HPW1 := Lib.hid (fun v => power_calls L (by have := HLb.out; have := HB.out; omega) v)
            have HPW2 := Lib.hid (fun v => power_calls (bits - L) (by have := HB.out; omega) v)
            have hsub : (bits : Int) - (L : Int) = ((bits - L : Nat) : Int) := by have := HLb.out; omega
            have hwr : IntKind.i64.wrap ((bits - L : Nat) : Int) = ((bits - L : Nat) : Int) := by rw [IntKind.wrap_i64]; omega
            obtain ⟨PW, hPW⟩ : ∃ PW, PW = 2 ^ L := ⟨_, rfl⟩
            obtain ⟨QW, hQW⟩ : ∃ QW, QW = 2 ^ (bits - L) := ⟨_, rfl⟩
            rw [← hPW] at HPW1
            rw [← hQW] at HPW2
            have HPQ := Lib.hid (show PW * QW ≤ 4294967296 by
              rw [hPW, hQW, ← Nat.pow_add, Nat.add_sub_cancel' HLb.out]
              exact Nat.pow_le_pow_right (by decide) HB.out)
            have HQ32 := Lib.hid (show QW ≤ 4294967296 by
              rw [hQW]
              exact Nat.pow_le_pow_right (n := 2) (by decide) (show bits - L ≤ 32 by have := HB.out; omega))
            have HP32 := Lib.hid (show PW ≤ 4294967296 by
              rw [hPW]
              exact Nat.pow_le_pow_right (n := 2) (by decide) (show L ≤ 32 by have := HLb.out; have := HB.out; omega))
            have HPWE := Lib.hid hPW
            have HQWE := Lib.hid hQW
            clear hPW hQW
            by_cases hB : PW ≤ PL
            · have hBi : (PW : Int) ≤ (PL : Int) := by omega
              have HBB := Lib.hid hB
              clear hB
              have cx := U4.out.rf.at
              go_upto_region 12 with fail
              refine wp_region_lit ?_
              refine @BigFrame.wpList_want _ _ _ _ _ _ _ ?hw8060 ?_
              case hw8060 => kernel_rfl
              intro K hK
              go_simp
              refine hK _ _ ?_
              clear hK K
              refine @BigFrame.wpList_want _ _ _ _ _ _ _ ?hw8061 ?_
              case hw8061 => kernel_rfl
              intro K hK
              go_simp
              refine hK _ _ ?_
              clear hK K
              refine @BigFrame.wpList_want _ _ _ _ _ _ _ ?hw8062 ?_
              case hw8062 => kernel_rfl
              intro K hK
              go_simp
              refine hK _ _ ?_
              clear hK K
              refine @BigFrame.wpList_want _ _ _ _ _ _ _ ?hw8063 ?_
              case hw8063 => kernel_rfl
              intro K hK
              go_simp
              refine hK _ _ ?_
              clear hK K
              refine @BigFrame.wpList_want _ _ _ _ _ _ _ ?hw8064 ?_
              case hw8064 => kernel_rfl
              intro K hK
              go_simp
              refine hK _ _ ?_
              clear hK K
              refine @BigFrame.wpList_want _ _ _ _ _ _ _ ?hw8065 ?_
              case hw8065 => kernel_rfl
              intro K hK
              go_simp
              refine hK _ _ ?_
              clear hK K
              refine @BigFrame.wpList_want _ _ _ _ _ _ _ ?hw8066 ?_
              case hw8066 => kernel_rfl
              intro K hK
              go_simp
              refine hK _ _ ?_
              clear hK K
              refine @BigFrame.wpList_want _ _ _ _ _ _ _ ?hw8067 ?_
              case hw8067 => kernel_rfl
              intro K hK
              go_simp
              refine hK _ _ ?_
              clear hK K
              refine @BigFrame.wpList_want _ _ _ _ _ _ _ ?hw8059 ?_
              case hw8059 => kernel_rfl
              intro K hK
              go_simp
              go_at_call 20
              refine (HPW1.out _).mono ?_
              rintro e9 w9 ⟨rfl, hw9⟩
              subst w9
              refine hK _ _ ?_
              clear hK K
              refine @BigFrame.wpList_want _ _ _ _ _ _ _ ?hw8068 ?_
              case hw8068 => kernel_rfl
              intro K hK
              go_simp
              refine hK _ _ ?_
              clear hK K
              refine @BigFrame.wpList_want _ _ _ _ _ _ _ ?hw8069 ?_
              case hw8069 => kernel_rfl
              intro K hK
              go_simp
              refine hK _ _ ?_
              clear hK K
              refine @wpList_skip _ _ _ _ _ _ _ ?hw8070 ?_
              case hw8070 => kernel_rfl
              simp only [Act.put, List.setIfInBounds_toArray, List.set_cons_zero, List.set_cons_succ]
              refine @wpList_skip _ _ _ _ _ _ _ ?hw8071 ?_
              case hw8071 => kernel_rfl
              simp only [Act.put, List.setIfInBounds_toArray, List.set_cons_zero, List.set_cons_succ]
              refine @wpList_skip _ _ _ _ _ _ _ ?hw8072 ?_
              case hw8072 => kernel_rfl
              simp only [Act.put, List.setIfInBounds_toArray, List.set_cons_zero, List.set_cons_succ]
              refine @wpList_skip _ _ _ _ _ _ _ ?hw8073 ?_
              case hw8073 => kernel_rfl
              simp only [Act.put, List.setIfInBounds_toArray, List.set_cons_zero, List.set_cons_succ]
              refine @wpList_skip _ _ _ _ _ _ _ ?hw8074 ?_
              case hw8074 => kernel_rfl
              simp only [Act.put, List.setIfInBounds_toArray, List.set_cons_zero, List.set_cons_succ]
              refine @wpList_skip _ _ _ _ _ _ _ ?hw8075 ?_
              case hw8075 => kernel_rfl
              simp only [Act.put, List.setIfInBounds_toArray, List.set_cons_zero, List.set_cons_succ]
              refine @wpList_skip _ _ _ _ _ _ _ ?hw8076 ?_
              case hw8076 => kernel_rfl
              simp only [Act.put, List.setIfInBounds_toArray, List.set_cons_zero, List.set_cons_succ]
              refine @wpList_skip _ _ _ _ _ _ _ ?hw8077 ?_
              case hw8077 => kernel_rfl
              simp only [Act.put, List.setIfInBounds_toArray, List.set_cons_zero, List.set_cons_succ]
              refine @BigFrame.wpList_want _ _ _ _ _ _ _ ?hw8078 ?_
              case hw8078 => kernel_rfl
              intro K hK
              go_simp
              refine hK _ _ ?_
              clear hK K
              refine @BigFrame.wpList_want _ _ _ _ _ _ _ ?hw8079 ?_
              case hw8079 => kernel_rfl
              intro K hK
              go_simp
              refine hK _ _ ?_
              clear hK K
              clear cx hBi hsub hwr
              go_upto_region 13 with fail
              refine wp_region_lit ?_
              refine @BigFrame.wpList_want _ _ _ _ _ _ _ ?hw8081 ?_
              case hw8081 => kernel_rfl
              intro K hK
              go_simp
              refine hK _ _ ?_
              clear hK K
              refine @BigFrame.wpList_want _ _ _ _ _ _ _ ?hw8080 ?_
              case hw8080 => kernel_rfl
              intro K hK
              go_simp
              go_at_call 36
              refine (HF2.out _ U4.out.rf).mono ?_
              rintro e9 w5 ⟨rfl, rff, kf⟩
              have U5 := Lib.hid (U4.out.read rff kf)
              clear rff kf
              refine hK _ _ ?_
              clear hK K
              go_upto_region 14 with fail
              refine wp_region_lit ?_
              refine @BigFrame.wpList_want _ _ _ _ _ _ _ ?hw8083 ?_
              case hw8083 => kernel_rfl
              intro K hK
              go_simp
              refine hK _ _ ?_
              clear hK K
              refine @BigFrame.wpList_want _ _ _ _ _ _ _ ?hw8082 ?_
              case hw8082 => kernel_rfl
              intro K hK
              go_simp
              go_at_call 37
              refine (HHB.out 3 (by decide) _ U5.out.rf).mono ?_
              rintro e9 w6 ⟨rfl, rfh, kh⟩
              have U6 := Lib.hid (U5.out.read rfh kh)
              clear rfh kh
              refine hK _ _ ?_
              clear hK K
              refine @wpL_alloc _ _ _ _ _ _ _ _ ?hw8084 22 rfl _ (alloc_h32 _) ?_
              case hw8084 => kernel_rfl
              simp only [Act.put, List.setIfInBounds_toArray, List.set_cons_zero, List.set_cons_succ]
              refine wpList_store_row rfl 22 _ _ rfl (w6.heap.size) zeros32 rfl rfl 22 zeros32 (heap_new _ _) (by rw [wireInfo29]; rfl) (rfl) (zeros32_all) ?_
              simp only [Act.put]
              rw [World.setRow_alloc_new]
              have kk : Kept w6.heap.size w6.heap.size w6 (w6.alloc (.cells zeros32 22)) := (Kept.refl _ _ _).alloc (Nat.le_refl _) _
              have U7 := Lib.hid (U6.out.step kk)
              have Z7 := Lib.hid (heap_new w6 (.cells zeros32 22))
              clear kk
              generalize w6.alloc (.cells zeros32 22) = w7 at U7 Z7 ⊢
              obtain ⟨zb, hzb⟩ : ∃ zb, zb = w6.heap.size := ⟨_, rfl⟩
              rw [← hzb] at Z7 ⊢
              clear hzb
              have cx := U7.out.rf.at
              go_upto_region 15 with fail
              refine wp_region_lit ?_
              refine @BigFrame.wpList_want _ _ _ _ _ _ _ ?hw8085 ?_
              case hw8085 => kernel_rfl
              intro K hK
              go_simp
              refine hK _ _ ?_
              clear hK K
              refine @BigFrame.wpList_want _ _ _ _ _ _ _ ?hw8086 ?_
              case hw8086 => kernel_rfl
              intro K hK
              go_simp
              refine hK _ _ ?_
              clear hK K
              refine @BigFrame.wpList_want _ _ _ _ _ _ _ ?hw8087 ?_
              case hw8087 => kernel_rfl
              intro K hK
              go_simp
              refine hK _ _ ?_
              clear hK K
              refine @BigFrame.wpList_want _ _ _ _ _ _ _ ?hw8088 ?_
              case hw8088 => kernel_rfl
              intro K hK
              go_simp
              refine hK _ _ ?_
              clear hK K
              refine @BigFrame.wpList_want _ _ _ _ _ _ _ ?hw8089 ?_
              case hw8089 => kernel_rfl
              intro K hK
              go_simp
              refine hK _ _ ?_
              clear hK K
              clear cx
              go_wp2
              go_roundw
              case rel => exact ⟨i + 1, by simp, free, rfl, _, rfl, D, [], 3, Lib.hid (by have := HK.out; omega), HFR, Lib.hid (by have h := RB.out HA1.out rfl (.inl (by rw [← HPWE.out]; exact HBB.out)); have h2 := HNX.out; rw [h] at h2; exact h2.bad (by decide)), Lib.hid (by have := HD.out; omega), U7⟩
              case measure => have := HK.out; simp [RowKit.intOf]; omega
            · have hBi : ¬ (PW : Int) ≤ (PL : Int) := by omega
              have HBB := Lib.hid hB
              have hPQ : PL * QW ≤ 4294967296 := Nat.le_trans (Nat.mul_le_mul_right QW (show PL ≤ PW by omega)) HPQ.out
              have hmul : (PL : Int) * (QW : Int) = ((PL * QW : Nat) : Int) := by simp
              obtain ⟨ST, hST⟩ : ∃ ST, ST = PL * QW := ⟨_, rfl⟩
              rw [← hST] at hPQ hmul
              have HST := Lib.hid (show ST = PL * 2 ^ (bits - L) by rw [hST, HQWE.out])
              have HST2 := Lib.hid hST
              have hst32 : (ST : Int) ≤ 4294967296 := by omega
              have hws : IntKind.i64.wrap (ST : Int) = (ST : Int) := by rw [IntKind.wrap_i64]; omega
              clear hB hST hPQ
              by_cases hC : ST < free
              · have hCi : (ST : Int) < (free : Int) := by omega
                have HCC := Lib.hid hC
                have cx := U4.out.rf.at
                go_upto_region 12 with fail
                refine wp_region_lit ?_
                refine @BigFrame.wpList_want _ _ _ _ _ _ _ ?hw8092 ?_
                case hw8092 => kernel_rfl
                intro K hK
                go_simp
                refine hK _ _ ?_
                clear hK K
                refine @BigFrame.wpList_want _ _ _ _ _ _ _ ?hw8093 ?_
                case hw8093 => kernel_rfl
                intro K hK
                go_simp
                refine hK _ _ ?_
                clear hK K
                refine @BigFrame.wpList_want _ _ _ _ _ _ _ ?hw8094 ?_
                case hw8094 => kernel_rfl
                intro K hK
                go_simp
                refine hK _ _ ?_
                clear hK K
                refine @BigFrame.wpList_want _ _ _ _ _ _ _ ?hw8095 ?_
                case hw8095 => kernel_rfl
                intro K hK
                go_simp
                refine hK _ _ ?_
                clear hK K
                refine @BigFrame.wpList_want _ _ _ _ _ _ _ ?hw8096 ?_
                case hw8096 => kernel_rfl
                intro K hK
                go_simp
                refine hK _ _ ?_
                clear hK K
                refine @BigFrame.wpList_want _ _ _ _ _ _ _ ?hw8097 ?_
                case hw8097 => kernel_rfl
                intro K hK
                go_simp
                refine hK _ _ ?_
                clear hK K
                refine @BigFrame.wpList_want _ _ _ _ _ _ _ ?hw8098 ?_
                case hw8098 => kernel_rfl
                intro K hK
                go_simp
                refine hK _ _ ?_
                clear hK K
                refine @BigFrame.wpList_want _ _ _ _ _ _ _ ?hw8099 ?_
                case hw8099 => kernel_rfl
                intro K hK
                go_simp
                refine hK _ _ ?_
                clear hK K
                refine @BigFrame.wpList_want _ _ _ _ _ _ _ ?hw8090 ?_
                case hw8090 => kernel_rfl
                intro K hK
                go_simp
                go_at_call 20
                refine (HPW1.out _).mono ?_
                rintro e9 w9 ⟨rfl, hw9⟩
                subst w9
                refine hK _ _ ?_
                clear hK K
                refine @BigFrame.wpList_want _ _ _ _ _ _ _ ?hw8100 ?_
                case hw8100 => kernel_rfl
                intro K hK
                go_simp
                refine hK _ _ ?_
                clear hK K
                refine @BigFrame.wpList_want _ _ _ _ _ _ _ ?hw8101 ?_
                case hw8101 => kernel_rfl
                intro K hK
                go_simp
                refine hK _ _ ?_
                clear hK K
                refine @BigFrame.wpList_want _ _ _ _ _ _ _ ?hw8102 ?_
                case hw8102 => kernel_rfl
                intro K hK
                go_simp
                refine hK _ _ ?_
                clear hK K
                refine @BigFrame.wpList_want _ _ _ _ _ _ _ ?hw8103 ?_
                case hw8103 => kernel_rfl
                intro K hK
                go_simp
                refine hK _ _ ?_
                clear hK K
                refine @BigFrame.wpList_want _ _ _ _ _ _ _ ?hw8104 ?_
                case hw8104 => kernel_rfl
                intro K hK
                go_simp
                refine hK _ _ ?_
                clear hK K
                refine @BigFrame.wpList_want _ _ _ _ _ _ _ ?hw8105 ?_
                case hw8105 => kernel_rfl
                intro K hK
                go_simp
                refine hK _ _ ?_
                clear hK K
                refine @BigFrame.wpList_want _ _ _ _ _ _ _ ?hw8091 ?_
                case hw8091 => kernel_rfl
                intro K hK
                go_simp
                go_at_call 20
                (try rw [hsub])
                (try rw [hwr])
                refine (HPW2.out _).mono ?_
                rintro e9 w9 ⟨rfl, hw9⟩
                subst w9
                refine hK _ _ ?_
                clear hK K
                refine @BigFrame.wpList_want _ _ _ _ _ _ _ ?hw8106 ?_
                case hw8106 => kernel_rfl
                intro K hK
                go_simp
                refine hK _ _ ?_
                clear hK K
                refine @BigFrame.wpList_want _ _ _ _ _ _ _ ?hw8107 ?_
                case hw8107 => kernel_rfl
                intro K hK
                go_simp
                refine hK _ _ ?_
                clear hK K
                refine @BigFrame.wpList_want _ _ _ _ _ _ _ ?hw8108 ?_
                case hw8108 => kernel_rfl
                intro K hK
                go_simp
                refine hK _ _ ?_
                clear hK K
                refine @BigFrame.wpList_want _ _ _ _ _ _ _ ?hw8109 ?_
                case hw8109 => kernel_rfl
                intro K hK
                go_simp
                refine hK _ _ ?_
                clear hK K
                refine @BigFrame.wpList_want _ _ _ _ _ _ _ ?hw8110 ?_
                case hw8110 => kernel_rfl
                intro K hK
                go_simp
                refine hK _ _ ?_
                clear hK K
                clear cx hBi hCi hC hsub hwr hmul hws
                go_upto_region 13 with fail
                refine wp_region_lit ?_
                refine @BigFrame.wpList_want _ _ _ _ _ _ _ ?hw8112 ?_
                case hw8112 => kernel_rfl
                intro K hK
                go_simp
                refine hK _ _ ?_
                clear hK K
                refine @BigFrame.wpList_want _ _ _ _ _ _ _ ?hw8111 ?_
                case hw8111 => kernel_rfl
                intro K hK
                go_simp
                go_at_call 36
                refine (HF2.out _ U4.out.rf).mono ?_
                rintro e9 w5 ⟨rfl, rff, kf⟩
                have U5 := Lib.hid (U4.out.read rff kf)
                clear rff kf
                refine hK _ _ ?_
                clear hK K
                go_upto_region 14 with fail
                refine wp_region_lit ?_
                refine @BigFrame.wpList_want _ _ _ _ _ _ _ ?hw8114 ?_
                case hw8114 => kernel_rfl
                intro K hK
                go_simp
                refine hK _ _ ?_
                clear hK K
                refine @BigFrame.wpList_want _ _ _ _ _ _ _ ?hw8113 ?_
                case hw8113 => kernel_rfl
                intro K hK
                go_simp
                go_at_call 37
                refine (HHB.out 3 (by decide) _ U5.out.rf).mono ?_
                rintro e9 w6 ⟨rfl, rfh, kh⟩
                have U6 := Lib.hid (U5.out.read rfh kh)
                clear rfh kh
                refine hK _ _ ?_
                clear hK K
                refine @wpL_alloc _ _ _ _ _ _ _ _ ?hw8115 22 rfl _ (alloc_h32 _) ?_
                case hw8115 => kernel_rfl
                simp only [Act.put, List.setIfInBounds_toArray, List.set_cons_zero, List.set_cons_succ]
                refine wpList_store_row rfl 22 _ _ rfl (w6.heap.size) zeros32 rfl rfl 22 zeros32 (heap_new _ _) (by rw [wireInfo29]; rfl) (rfl) (zeros32_all) ?_
                simp only [Act.put]
                rw [World.setRow_alloc_new]
                have kk : Kept w6.heap.size w6.heap.size w6 (w6.alloc (.cells zeros32 22)) := (Kept.refl _ _ _).alloc (Nat.le_refl _) _
                have U7 := Lib.hid (U6.out.step kk)
                have Z7 := Lib.hid (heap_new w6 (.cells zeros32 22))
                clear kk
                generalize w6.alloc (.cells zeros32 22) = w7 at U7 Z7 ⊢
                obtain ⟨zb, hzb⟩ : ∃ zb, zb = w6.heap.size := ⟨_, rfl⟩
                rw [← hzb] at Z7 ⊢
                clear hzb
                have cx := U7.out.rf.at
                go_upto_region 15 with fail
                refine wp_region_lit ?_
                refine @BigFrame.wpList_want _ _ _ _ _ _ _ ?hw8116 ?_
                case hw8116 => kernel_rfl
                intro K hK
                go_simp
                refine hK _ _ ?_
                clear hK K
                refine @BigFrame.wpList_want _ _ _ _ _ _ _ ?hw8117 ?_
                case hw8117 => kernel_rfl
                intro K hK
                go_simp
                refine hK _ _ ?_
                clear hK K
                refine @BigFrame.wpList_want _ _ _ _ _ _ _ ?hw8118 ?_
                case hw8118 => kernel_rfl
                intro K hK
                go_simp
                refine hK _ _ ?_
                clear hK K
                refine @BigFrame.wpList_want _ _ _ _ _ _ _ ?hw8119 ?_
                case hw8119 => kernel_rfl
                intro K hK
                go_simp
                refine hK _ _ ?_
                clear hK K
                refine @BigFrame.wpList_want _ _ _ _ _ _ _ ?hw8120 ?_
                case hw8120 => kernel_rfl
                intro K hK
                go_simp
                refine hK _ _ ?_
                clear hK K
                clear cx
                go_wp2
                go_roundw
                case rel => exact ⟨i + 1, by simp, free, rfl, _, rfl, D, [], 3, Lib.hid (by have := HK.out; omega), HFR, Lib.hid (by have h := RB.out HA1.out rfl (.inr (by rw [← HST.out]; exact HCC.out)); have h2 := HNX.out; rw [h] at h2; exact h2.bad (by decide)), Lib.hid (by have := HD.out; omega), U7⟩
                case measure => have := HK.out; simp [RowKit.intOf]; omega
              · have hCi : ¬ (ST : Int) < (free : Int) := by omega
                have HCC := Lib.hid hC
                have cx := U4.out.rf.at
                go_upto_region 12 with fail
                refine wp_region_lit ?_
                refine @BigFrame.wpList_want _ _ _ _ _ _ _ ?hw8121 ?_
                case hw8121 => kernel_rfl
                intro K hK
                go_simp
                refine hK _ _ ?_
                clear hK K
                refine @BigFrame.wpList_want _ _ _ _ _ _ _ ?hw8122 ?_
                case hw8122 => kernel_rfl
                intro K hK
                go_simp
                refine hK _ _ ?_
                clear hK K
                refine @BigFrame.wpList_want _ _ _ _ _ _ _ ?hw8123 ?_
                case hw8123 => kernel_rfl
                intro K hK
                go_simp
                refine hK _ _ ?_
                clear hK K
                refine @BigFrame.wpList_want _ _ _ _ _ _ _ ?hw8124 ?_
                case hw8124 => kernel_rfl
                intro K hK
                go_simp
                refine hK _ _ ?_
                clear hK K
                refine @BigFrame.wpList_want _ _ _ _ _ _ _ ?hw8125 ?_
                case hw8125 => kernel_rfl
                intro K hK
                go_simp
                refine hK _ _ ?_
                clear hK K
                refine @BigFrame.wpList_want _ _ _ _ _ _ _ ?hw8126 ?_
                case hw8126 => kernel_rfl
                intro K hK
                go_simp
                refine hK _ _ ?_
                clear hK K
                refine @BigFrame.wpList_want _ _ _ _ _ _ _ ?hw8127 ?_
                case hw8127 => kernel_rfl
                intro K hK
                go_simp
                refine hK _ _ ?_
                clear hK K
                refine @BigFrame.wpList_want _ _ _ _ _ _ _ ?hw8128 ?_
                case hw8128 => kernel_rfl
                intro K hK
                go_simp
                refine hK _ _ ?_
                clear hK K
                refine @BigFrame.wpList_want _ _ _ _ _ _ _ ?hw8090 ?_
                case hw8090 => kernel_rfl
                intro K hK
                go_simp
                go_at_call 20
                refine (HPW1.out _).mono ?_
                rintro e9 w9 ⟨rfl, hw9⟩
                subst w9
                refine hK _ _ ?_
                clear hK K
                refine @BigFrame.wpList_want _ _ _ _ _ _ _ ?hw8129 ?_
                case hw8129 => kernel_rfl
                intro K hK
                go_simp
                refine hK _ _ ?_
                clear hK K
                refine @BigFrame.wpList_want _ _ _ _ _ _ _ ?hw8130 ?_
                case hw8130 => kernel_rfl
                intro K hK
                go_simp
                refine hK _ _ ?_
                clear hK K
                refine @BigFrame.wpList_want _ _ _ _ _ _ _ ?hw8131 ?_
                case hw8131 => kernel_rfl
                intro K hK
                go_simp
                refine hK _ _ ?_
                clear hK K
                refine @BigFrame.wpList_want _ _ _ _ _ _ _ ?hw8132 ?_
                case hw8132 => kernel_rfl
                intro K hK
                go_simp
                refine hK _ _ ?_
                clear hK K
                refine @BigFrame.wpList_want _ _ _ _ _ _ _ ?hw8133 ?_
                case hw8133 => kernel_rfl
                intro K hK
                go_simp
                refine hK _ _ ?_
                clear hK K
                refine @BigFrame.wpList_want _ _ _ _ _ _ _ ?hw8134 ?_
                case hw8134 => kernel_rfl
                intro K hK
                go_simp
                refine hK _ _ ?_
                clear hK K
                refine @BigFrame.wpList_want _ _ _ _ _ _ _ ?hw8091 ?_
                case hw8091 => kernel_rfl
                intro K hK
                go_simp
                go_at_call 20
                (try rw [hsub])
                (try rw [hwr])
                refine (HPW2.out _).mono ?_
                rintro e9 w9 ⟨rfl, hw9⟩
                subst w9
                refine hK _ _ ?_
                clear hK K
                refine @BigFrame.wpList_want _ _ _ _ _ _ _ ?hw8135 ?_
                case hw8135 => kernel_rfl
                intro K hK
                go_simp
                refine hK _ _ ?_
                clear hK K
                refine @BigFrame.wpList_want _ _ _ _ _ _ _ ?hw8136 ?_
                case hw8136 => kernel_rfl
                intro K hK
                go_simp
                refine hK _ _ ?_
                clear hK K
                refine @BigFrame.wpList_want _ _ _ _ _ _ _ ?hw8137 ?_
                case hw8137 => kernel_rfl
                intro K hK
                go_simp
                refine hK _ _ ?_
                clear hK K
                refine @BigFrame.wpList_want _ _ _ _ _ _ _ ?hw8138 ?_
                case hw8138 => kernel_rfl
                intro K hK
                go_simp
                refine hK _ _ ?_
                clear hK K
                refine @BigFrame.wpList_want _ _ _ _ _ _ _ ?hw8139 ?_
                case hw8139 => kernel_rfl
                intro K hK
                go_simp
                refine hK _ _ ?_
                clear hK K
                clear cx hBi hCi hC
                have HRC := Lib.hid (RC.out HA1.out (by have h1 := HBB.out; have h2 := HCC.out; rw [← HPWE.out, ← HST.out]; rintro (h3 | h3); exact h1 h3; exact h2 h3))
                have HDS := Lib.hid (show (bcells hh).toArray.size = 32 by rw [List.size_toArray, bcells_length, HHL.out])
                have HDA := Lib.hid (bcells_all hh)
                have HBS := Lib.hid (fun (v : World) => build_rseed v (.int .i64 (L : Int)) (.int .i64 (PL : Int)) ⟨_, rfl⟩ ⟨_, rfl⟩ hh HHL.out)
                obtain ⟨DH, hDH⟩ : ∃ DH, DH = (bcells hh).toArray := ⟨_, rfl⟩
                rw [← hDH] at HHS HDS HDA HBS
                clear hDH
                go_upto_region 14 with fail
                refine wp_region_lit ?_
                refine @BigFrame.wpList_want _ _ _ _ _ _ _ ?hw8141 ?_
                case hw8141 => kernel_rfl
                intro K hK
                go_simp
                refine hK _ _ ?_
                clear hK K
                refine @BigFrame.wpList_want _ _ _ _ _ _ _ ?hw8140 ?_
                case hw8140 => kernel_rfl
                intro K hK
                go_simp
                go_at_call 37
                refine (HHS.out _ U4.out.rf).mono ?_
                rintro e9 w5 ⟨rfl, rf5, k5⟩
                have U5 := Lib.hid (U4.out.read rf5 k5)
                clear rf5 k5
                refine hK _ _ ?_
                clear hK K
                refine @wpL_alloc _ _ _ _ _ _ _ _ ?hw8142 22 rfl _ (alloc_h32 _) ?_
                case hw8142 => kernel_rfl
                simp only [Act.put, List.setIfInBounds_toArray, List.set_cons_zero, List.set_cons_succ]
                refine wpList_store_row rfl 22 _ _ rfl (w5.heap.size) DH rfl rfl 22 zeros32 (heap_new _ _) (by rw [wireInfo29, HDS.out]) (by rw [HDS.out]; rfl) (HDA.out) ?_
                simp only [Act.put]
                rw [World.setRow_alloc_new]
                have kk : Kept w5.heap.size w5.heap.size w5 (w5.alloc (.cells DH 22)) := (Kept.refl _ _ _).alloc (Nat.le_refl _) _
                have U6 := Lib.hid (U5.out.step kk)
                have Z6 := Lib.hid (heap_new w5 (.cells DH 22))
                clear kk
                generalize w5.alloc (.cells DH 22) = w6 at U6 Z6 ⊢
                obtain ⟨zb, hzb⟩ : ∃ zb, zb = w5.heap.size := ⟨_, rfl⟩
                rw [← hzb] at Z6 ⊢
                clear hzb
                by_cases hE : e3 = 0
                · subst hE
                  have cx := U6.out.rf.at
                  go_upto_region 15 with fail
                  refine wp_region_lit ?_
                  refine @BigFrame.wpList_want _ _ _ _ _ _ _ ?hw8143 ?_
                  case hw8143 => kernel_rfl
                  intro K hK
                  go_simp
                  refine hK _ _ ?_
                  clear hK K
                  refine @BigFrame.wpList_want _ _ _ _ _ _ _ ?hw8144 ?_
                  case hw8144 => kernel_rfl
                  intro K hK
                  go_simp
                  refine hK _ _ ?_
                  clear hK K
                  refine @BigFrame.wpList_want _ _ _ _ _ _ _ ?hw8145 ?_
                  case hw8145 => kernel_rfl
                  intro K hK
                  go_simp
                  refine hK _ _ ?_
                  clear hK K
                  refine @BigFrame.wpList_want _ _ _ _ _ _ _ ?hw8146 ?_
                  case hw8146 => kernel_rfl
                  intro K hK
                  go_simp
                  refine hK _ _ ?_
                  clear hK K
                  refine @BigFrame.wpList_want _ _ _ _ _ _ _ ?hw8147 ?_
                  case hw8147 => kernel_rfl
                  intro K hK
                  go_simp
                  refine hK _ _ ?_
                  clear hK K
                  clear cx
                  have hst2 : ((PL : Int) + 1) * (QW : Int) = (ST : Int) + (QW : Int) := by
                    rw [Int.add_mul, hmul]
                    simp
                  have hq32 : (QW : Int) ≤ 4294967296 := by have := HQ32.out; omega
                  have hwp : IntKind.i64.wrap ((PL : Int) + 1) = (PL : Int) + 1 := by have := HP32.out; have := HBB.out; rw [IntKind.wrap_i64]; omega
                  have hwq : IntKind.i64.wrap ((ST : Int) + (QW : Int)) = (ST : Int) + (QW : Int) := by rw [IntKind.wrap_i64]; omega
                  go_upto_region 16 with fail
                  refine wp_region_lit ?_
                  refine @BigFrame.wpList_want _ _ _ _ _ _ _ ?hw8149 ?_
                  case hw8149 => kernel_rfl
                  intro K hK
                  go_simp
                  refine hK _ _ ?_
                  clear hK K
                  refine @BigFrame.wpList_want _ _ _ _ _ _ _ ?hw8150 ?_
                  case hw8150 => kernel_rfl
                  intro K hK
                  go_simp
                  refine hK _ _ ?_
                  clear hK K
                  refine @BigFrame.wpList_want _ _ _ _ _ _ _ ?hw8151 ?_
                  case hw8151 => kernel_rfl
                  intro K hK
                  go_simp
                  refine hK _ _ ?_
                  clear hK K
                  refine @BigFrame.wpList_want _ _ _ _ _ _ _ ?hw8152 ?_
                  case hw8152 => kernel_rfl
                  intro K hK
                  go_simp
                  refine hK _ _ ?_
                  clear hK K
                  refine @BigFrame.wpList_want _ _ _ _ _ _ _ ?hw8153 ?_
                  case hw8153 => kernel_rfl
                  intro K hK
                  go_simp
                  refine hK _ _ ?_
                  clear hK K
                  refine @BigFrame.wpList_want _ _ _ _ _ _ _ ?hw8148 ?_
                  case hw8148 => kernel_rfl
                  intro K hK
                  go_simp
                  go_at_call 20
                  (try rw [hsub])
                  (try rw [hwr])
                  refine (HPW2.out _).mono ?_
                  rintro e9 w9 ⟨rfl, hw9⟩
                  subst w9
                  refine hK _ _ ?_
                  clear hK K
                  refine @BigFrame.wpList_want _ _ _ _ _ _ _ ?hw8154 ?_
                  case hw8154 => kernel_rfl
                  intro K hK
                  go_simp
                  refine hK _ _ ?_
                  clear hK K
                  refine @BigFrame.wpList_want _ _ _ _ _ _ _ ?hw8155 ?_
                  case hw8155 => kernel_rfl
                  intro K hK
                  go_simp
                  refine hK _ _ ?_
                  clear hK K
                  clear hmul hsub hwr hst2 hwp hwq hws
                  have hsd : Pp.cells r.s = .int .i64 (L : Int) :: .int .i64 (PL : Int) :: bcells hh := by rw [HRC.out]; rfl
                  have HSDE := Lib.hid hsd
                  clear hsd
                  have ktmp : True := trivial
                  obtain ⟨zi, zz, hzi, hzz, hzs, hz34, hzb⟩ := rseed_full
                  have hsz34 : (Pp.cells r.s).toArray.size = 34 := by rw [List.size_toArray, Pp.cells_length HIN.out]
                  have HBO := Lib.hid (run_build_one (P := Tryd.prog) w6 42 47 zi zz Tryd.underlying42 hzi hzz (Pp.cells r.s).toArray (by rw [hsz34, hz34]) (by rw [hz34]; decide) (by rw [hz34]; decide))
                  have kb : Kept w6.heap.size w6.heap.size w6 (w6.alloc (.cells (Pp.cells r.s).toArray 47)) := (Kept.refl _ _ _).alloc (Nat.le_refl _) _
                  have ub := U6.out.step kb
                  have hcr : (w6.alloc (.cells (Pp.cells r.s).toArray 47)).rangeAt w6.heap.size 0 (Pp.cells r.s) := fun q u hu => by
                    rw [cell_of_row _ _ _ _ _ _ (heap_new _ _), Nat.zero_add]
                    simpa using hu
                  obtain ⟨v', w8, happ, ho8, hg8⟩ := append_rseed (w6.alloc (.cells (Pp.cells r.s).toArray 47)) (c + 1) (.slice vad vn vc) D ub.own ub.rf.lt w6.heap.size 1 r.s HIN.out.2.2 hcr (by have := HD.out; have := HK.out; have := HCN.out; omega)
                  have hne : ∀ q, q ≤ c → some q ≠ (Value.slice vad vn vc).ownBlock := fun q hq e => by have := (ub.own.2.lt q e.symm).1; omega
                  have HU8 : Hid (Ur w w8 c l3 0 v' (D ++ [r.s])) := Lib.hid ⟨ub.rf.same (hg8.block c ub.rf.lt (hne c (Nat.le_refl _))), ho8, ub.kept.trans ⟨hg8.os, hg8.tape, hg8.output, hg8.size, fun q hq _ => hg8.block q (Nat.lt_of_lt_of_le hq ub.kept.size) (hne q (by have := ub.low; omega))⟩, ub.low⟩
                  have HAPP := Lib.hid happ
                  have HBS2 := Lib.hid (show (Instr.build 47 #[(0, .int .i64 (L : Int)), (1, .int .i64 (PL : Int)), (2, .agg DH)]).run Tryd.prog w6 = .ok (.agg (Pp.cells r.s).toArray) w6 by rw [HSDE.out]; exact HBS.out w6)
                  obtain ⟨SC, hSC⟩ : ∃ SC, SC = (Pp.cells r.s).toArray := ⟨_, rfl⟩
                  rw [← hSC] at HBO HAPP HBS2
                  clear hzi hzz hzs hz34 hzb hsz34 kb ub hcr happ ho8 hg8 hne hSC ktmp
                  go_upto_region 17 with fail
                  refine wp_region_lit ?_
                  refine @BigFrame.wpList_want _ _ _ _ _ _ _ ?hw8156 ?_
                  case hw8156 => kernel_rfl
                  intro K hK
                  go_simp
                  refine hK _ _ ?_
                  clear hK K
                  refine @BigFrame.wpList_want _ _ _ _ _ _ _ ?hw8157 ?_
                  case hw8157 => kernel_rfl
                  intro K hK
                  go_simp
                  refine hK _ _ ?_
                  clear hK K
                  refine @BigFrame.wpList_want _ _ _ _ _ _ _ ?hw8158 ?_
                  case hw8158 => kernel_rfl
                  intro K hK
                  go_simp
                  refine hK _ _ ?_
                  clear hK K
                  refine @wpList_load_known _ _ _ _ _ _ _ ?hw8159 22 (.tmp 13) rfl (zb) (0) rfl (.agg DH) (run_loadVar_row w6 zb 22 22 DH (0, 0) _ Z6.out Tryd.underlying22 rfl (by rw [wireInfo29, HDS.out])) ?_
                  case hw8159 => kernel_rfl
                  simp only [Act.put, List.setIfInBounds_toArray, List.set_cons_zero, List.set_cons_succ]
                  refine wpList_build_three rfl 47 _ _ _ rfl _ _ _ rfl rfl rfl HBS2.out ?_
                  simp only [Act.put, List.setIfInBounds_toArray, List.set_cons_zero, List.set_cons_succ]
                  refine wpL_run_build rfl _ 42 rfl (.agg SC) rfl HBO.out ?_
                  simp only [Act.put, List.setIfInBounds_toArray, List.set_cons_zero, List.set_cons_succ]
                  refine wpList_append_known rfl _ _ 42 42 42 rfl rfl (.slice vad vn vc) (.slice (some ⟨w6.heap.size, 0, none⟩) 1 1) rfl rfl HAPP.out ?_
                  simp only [Act.put, List.setIfInBounds_toArray, List.set_cons_zero, List.set_cons_succ]
                  refine @BigFrame.wpList_want _ _ _ _ _ _ _ ?hw8160 ?_
                  case hw8160 => kernel_rfl
                  intro K hK
                  go_simp
                  refine hK _ _ ?_
                  clear hK K
                  go_wp2
                  go_roundw
                  case rel => exact ⟨i + 1, by simp, ST + QW, by simp, v', rfl, D ++ [r.s], l3, 0, Lib.hid (by have := HK.out; omega), Lib.hid (by omega), Lib.hid (by
                      have h := HNX.out
                      have e0 : r.e = 0 := by rw [HRC.out]
                      have e1 : r.l = l3 := by rw [HRC.out]
                      have e2 : Pp.stop bits r.s = ST + QW := by
                        rw [HRC.out, HST2.out, HQWE.out]
                        show (PL + 1) * 2 ^ (bits - L) = _
                        rw [Nat.add_mul, Nat.one_mul]
                      rwa [e0, e1, e2] at h), Lib.hid (by have := HD.out; simp; omega), HU8⟩
                  case measure => have := HK.out; simp [RowKit.intOf]; omega
                · have HNE3 := Lib.hid hE
                  have hxi : (e3 == 0) = false := by rw [beq_eq_false_iff_ne]; exact hE
                  clear hE
                  have cx := U6.out.rf.at
                  go_upto_region 15 with fail
                  refine wp_region_lit ?_
                  refine @BigFrame.wpList_want _ _ _ _ _ _ _ ?hw8161 ?_
                  case hw8161 => kernel_rfl
                  intro K hK
                  go_simp
                  refine hK _ _ ?_
                  clear hK K
                  refine @BigFrame.wpList_want _ _ _ _ _ _ _ ?hw8162 ?_
                  case hw8162 => kernel_rfl
                  intro K hK
                  go_simp
                  refine hK _ _ ?_
                  clear hK K
                  refine @BigFrame.wpList_want _ _ _ _ _ _ _ ?hw8163 ?_
                  case hw8163 => kernel_rfl
                  intro K hK
                  go_simp
                  refine hK _ _ ?_
                  clear hK K
                  refine @BigFrame.wpList_want _ _ _ _ _ _ _ ?hw8164 ?_
                  case hw8164 => kernel_rfl
                  intro K hK
                  go_simp
                  refine hK _ _ ?_
                  clear hK K
                  refine @BigFrame.wpList_want _ _ _ _ _ _ _ ?hw8165 ?_
                  case hw8165 => kernel_rfl
                  intro K hK
                  go_simp
                  refine hK _ _ ?_
                  clear hK K
                  clear cx hxi
                  have hl3 := HL3.out HNE3.out
                  subst hl3
                  go_wp2
                  go_roundw
                  case rel => exact ⟨i + 1, by simp, free, rfl, _, rfl, D, [], e3, Lib.hid (by have := HK.out; omega), HFR, Lib.hid (by
                      have h := HNX.out
                      have e0 : r.e = e3 := by rw [HRC.out]
                      rw [e0] at h
                      exact h.bad HNE3.out), Lib.hid (by have := HD.out; omega), U6⟩
                  case measure => have := HK.out; simp [RowKit.intOf]; omega
          · have HNE2 := Lib.hid hB0
            have hl2 := HL2.out hB0
            subst hl2
            clear hB0
            have cx := U4.out.rf.at
            have hxi : (e2 == 0) = false := by rw [beq_eq_false_iff_ne]; exact HNE2.out
            go_upto_region 12 with fail
            refine wp_region_lit ?_
            refine @BigFrame.wpList_want _ _ _ _ _ _ _ ?hw8166 ?_
            case hw8166 => kernel_rfl
            intro K hK
            go_simp
            refine hK _ _ ?_
            clear hK K
            refine @BigFrame.wpList_want _ _ _ _ _ _ _ ?hw8167 ?_
            case hw8167 => kernel_rfl
            intro K hK
            go_simp
            refine hK _ _ ?_
            clear hK K
            refine @BigFrame.wpList_want _ _ _ _ _ _ _ ?hw8168 ?_
            case hw8168 => kernel_rfl
            intro K hK
            go_simp
            refine hK _ _ ?_
            clear hK K
            refine @BigFrame.wpList_want _ _ _ _ _ _ _ ?hw8169 ?_
            case hw8169 => kernel_rfl
            intro K hK
            go_simp
            refine hK _ _ ?_
            clear hK K
            refine @BigFrame.wpList_want _ _ _ _ _ _ _ ?hw8170 ?_
            case hw8170 => kernel_rfl
            intro K hK
            go_simp
            refine hK _ _ ?_
            clear hK K
            refine @BigFrame.wpList_want _ _ _ _ _ _ _ ?hw8171 ?_
            case hw8171 => kernel_rfl
            intro K hK
            go_simp
            refine hK _ _ ?_
            clear hK K
            refine @wpList_skip _ _ _ _ _ _ _ ?hw8172 ?_
            case hw8172 => kernel_rfl
            simp only [Act.put, List.setIfInBounds_toArray, List.set_cons_zero, List.set_cons_succ]
            refine @wpList_skip _ _ _ _ _ _ _ ?hw8173 ?_
            case hw8173 => kernel_rfl
            simp only [Act.put, List.setIfInBounds_toArray, List.set_cons_zero, List.set_cons_succ]
            refine @wpList_skip _ _ _ _ _ _ _ ?hw8174 ?_
            case hw8174 => kernel_rfl
            simp only [Act.put, List.setIfInBounds_toArray, List.set_cons_zero, List.set_cons_succ]
            refine @wpList_skip _ _ _ _ _ _ _ ?hw8175 ?_
            case hw8175 => kernel_rfl
            simp only [Act.put, List.setIfInBounds_toArray, List.set_cons_zero, List.set_cons_succ]
            refine @wpList_skip _ _ _ _ _ _ _ ?hw8176 ?_
            case hw8176 => kernel_rfl
            simp only [Act.put, List.setIfInBounds_toArray, List.set_cons_zero, List.set_cons_succ]
            refine @wpList_skip _ _ _ _ _ _ _ ?hw8177 ?_
            case hw8177 => kernel_rfl
            simp only [Act.put, List.setIfInBounds_toArray, List.set_cons_zero, List.set_cons_succ]
            refine @wpList_skip _ _ _ _ _ _ _ ?hw8178 ?_
            case hw8178 => kernel_rfl
            simp only [Act.put, List.setIfInBounds_toArray, List.set_cons_zero, List.set_cons_succ]
            refine @wpList_skip _ _ _ _ _ _ _ ?hw8179 ?_
            case hw8179 => kernel_rfl
            simp only [Act.put, List.setIfInBounds_toArray, List.set_cons_zero, List.set_cons_succ]
            refine @wpList_skip _ _ _ _ _ _ _ ?hw8180 ?_
            case hw8180 => kernel_rfl
            simp only [Act.put, List.setIfInBounds_toArray, List.set_cons_zero, List.set_cons_succ]
            refine @wpList_skip _ _ _ _ _ _ _ ?hw8181 ?_
            case hw8181 => kernel_rfl
            simp only [Act.put, List.setIfInBounds_toArray, List.set_cons_zero, List.set_cons_succ]
            refine @wpList_skip _ _ _ _ _ _ _ ?hw8182 ?_
            case hw8182 => kernel_rfl
            simp only [Act.put, List.setIfInBounds_toArray, List.set_cons_zero, List.set_cons_succ]
            refine @wpList_skip _ _ _ _ _ _ _ ?hw8183 ?_
            case hw8183 => kernel_rfl
            simp only [Act.put, List.setIfInBounds_toArray, List.set_cons_zero, List.set_cons_succ]
            refine @wpList_skip _ _ _ _ _ _ _ ?hw8184 ?_
            case hw8184 => kernel_rfl
            simp only [Act.put, List.setIfInBounds_toArray, List.set_cons_zero, List.set_cons_succ]
            refine @wpList_skip _ _ _ _ _ _ _ ?hw8185 ?_
            case hw8185 => kernel_rfl
            simp only [Act.put, List.setIfInBounds_toArray, List.set_cons_zero, List.set_cons_succ]
            refine @BigFrame.wpList_want _ _ _ _ _ _ _ ?hw8186 ?_
            case hw8186 => kernel_rfl
            intro K hK
            go_simp
            refine hK _ _ ?_
            clear hK K
            clear cx
            go_upto_region 14 with fail
            refine wp_region_lit ?_
            refine @BigFrame.wpList_want _ _ _ _ _ _ _ ?hw8188 ?_
            case hw8188 => kernel_rfl
            intro K hK
            go_simp
            refine hK _ _ ?_
            clear hK K
            refine @BigFrame.wpList_want _ _ _ _ _ _ _ ?hw8187 ?_
            case hw8187 => kernel_rfl
            intro K hK
            go_simp
            go_at_call 37
            refine (HHB.out e2 HNE2.out _ U4.out.rf).mono ?_
            rintro e9 w5 ⟨rfl, rfh, kh⟩
            have U5 := Lib.hid (U4.out.read rfh kh)
            clear rfh kh
            refine hK _ _ ?_
            clear hK K
            refine @wpL_alloc _ _ _ _ _ _ _ _ ?hw8189 22 rfl _ (alloc_h32 _) ?_
            case hw8189 => kernel_rfl
            simp only [Act.put, List.setIfInBounds_toArray, List.set_cons_zero, List.set_cons_succ]
            refine wpList_store_row rfl 22 _ _ rfl (w5.heap.size) zeros32 rfl rfl 22 zeros32 (heap_new _ _) (by rw [wireInfo29]; rfl) (rfl) (zeros32_all) ?_
            simp only [Act.put]
            rw [World.setRow_alloc_new]
            have kk : Kept w5.heap.size w5.heap.size w5 (w5.alloc (.cells zeros32 22)) := (Kept.refl _ _ _).alloc (Nat.le_refl _) _
            have U6 := Lib.hid (U5.out.step kk)
            have Z6 := Lib.hid (heap_new w5 (.cells zeros32 22))
            clear kk
            generalize w5.alloc (.cells zeros32 22) = w6 at U6 Z6 ⊢
            obtain ⟨zb, hzb⟩ : ∃ zb, zb = w5.heap.size := ⟨_, rfl⟩
            rw [← hzb] at Z6 ⊢
            clear hzb
            have cx := U6.out.rf.at
            go_upto_region 15 with fail
            refine wp_region_lit ?_
            refine @BigFrame.wpList_want _ _ _ _ _ _ _ ?hw8190 ?_
            case hw8190 => kernel_rfl
            intro K hK
            go_simp
            refine hK _ _ ?_
            clear hK K
            refine @BigFrame.wpList_want _ _ _ _ _ _ _ ?hw8191 ?_
            case hw8191 => kernel_rfl
            intro K hK
            go_simp
            refine hK _ _ ?_
            clear hK K
            refine @BigFrame.wpList_want _ _ _ _ _ _ _ ?hw8192 ?_
            case hw8192 => kernel_rfl
            intro K hK
            go_simp
            refine hK _ _ ?_
            clear hK K
            refine @BigFrame.wpList_want _ _ _ _ _ _ _ ?hw8193 ?_
            case hw8193 => kernel_rfl
            intro K hK
            go_simp
            refine hK _ _ ?_
            clear hK K
            refine @BigFrame.wpList_want _ _ _ _ _ _ _ ?hw8194 ?_
            case hw8194 => kernel_rfl
            intro K hK
            go_simp
            refine hK _ _ ?_
            clear hK K
            clear cx hxi
            go_wp2
            go_roundw
            case rel => exact ⟨i + 1, by simp, free, rfl, _, rfl, D, [], e2, Lib.hid (by have := HK.out; omega), HFR, Lib.hid (by have h := RB0.out HA1.out HNE2.out; have h2 := HNX.out; rw [h] at h2; exact h2.bad HNE2.out), Lib.hid (by have := HD.out; omega), U6⟩
            case measure => have := HK.out; simp [RowKit.intOf]; omega
      · have hei : (e == 0) = false := by rw [beq_eq_false_iff_ne]; exact he
        have HNZ := Lib.hid he
        clear he
        have HX := Lib.hid (HEN.out (fun h => absurd h HNZ.out))
        have c1 := HC1.out
        go_upto_region 6 with fail
        refine wp_region_lit ?_
        refine @BigFrame.wpList_want _ _ _ _ _ _ _ ?hw8009 ?_
        case hw8009 => kernel_rfl
        intro K hK
        go_simp
        refine hK _ _ ?_
        clear hK K
        refine @BigFrame.wpList_want _ _ _ _ _ _ _ ?hw8010 ?_
        case hw8010 => kernel_rfl
        intro K hK
        go_simp
        refine hK _ _ ?_
        clear hK K
        refine @BigFrame.wpList_want _ _ _ _ _ _ _ ?hw8011 ?_
        case hw8011 => kernel_rfl
        intro K hK
        go_simp
        refine hK _ _ ?_
        clear hK K
        refine @BigFrame.wpList_want _ _ _ _ _ _ _ ?hw8012 ?_
        case hw8012 => kernel_rfl
        intro K hK
        go_simp
        refine hK _ _ ?_
        clear hK K
        refine @BigFrame.wpList_want _ _ _ _ _ _ _ ?hw8013 ?_
        case hw8013 => kernel_rfl
        intro K hK
        go_simp
        refine hK _ _ ?_
        clear hK K
        refine @BigFrame.wpList_want _ _ _ _ _ _ _ ?hw8014 ?_
        case hw8014 => kernel_rfl
        intro K hK
        go_simp
        refine hK _ _ ?_
        clear hK K
        refine @BigFrame.wpList_want _ _ _ _ _ _ _ ?hw8015 ?_
        case hw8015 => kernel_rfl
        intro K hK
        go_simp
        refine hK _ _ ?_
        clear hK K
        refine @BigFrame.wpList_want _ _ _ _ _ _ _ ?hw8016 ?_
        case hw8016 => kernel_rfl
        intro K hK
        go_simp
        refine hK _ _ ?_
        clear hK K
        refine @BigFrame.wpList_want _ _ _ _ _ _ _ ?hw8017 ?_
        case hw8017 => kernel_rfl
        intro K hK
        go_simp
        refine hK _ _ ?_
        clear hK K
        refine @BigFrame.wpList_want _ _ _ _ _ _ _ ?hw8018 ?_
        case hw8018 => kernel_rfl
        intro K hK
        go_simp
        refine hK _ _ ?_
        clear hK K
        clear hei c1
        go_upto_region 18 with fail
        refine wp_region_lit ?_
        refine @BigFrame.wpList_want _ _ _ _ _ _ _ ?hw8005 ?_
        case hw8005 => kernel_rfl
        intro K hK
        go_simp
        refine hK _ _ ?_
        clear hK K
        refine @BigFrame.wpList_want _ _ _ _ _ _ _ ?hw8006 ?_
        case hw8006 => kernel_rfl
        intro K hK
        go_simp
        refine hK _ _ ?_
        clear hK K
        refine @BigFrame.wpList_want _ _ _ _ _ _ _ ?hw8004 ?_
        case hw8004 => kernel_rfl
        intro K hK
        go_simp
        go_at_call 38
        refine (HE2.out).mono ?_
        rintro e2 w9 ⟨rfl, hw9⟩
        subst w9
        rw [HX.out.1]
        refine hK _ _ ?_
        clear hK K
        refine @BigFrame.wpList_want _ _ _ _ _ _ _ ?hw8007 ?_
        case hw8007 => kernel_rfl
        intro K hK
        go_simp
        refine hK _ _ ?_
        clear hK K
        refine @BigFrame.wpList_want _ _ _ _ _ _ _ ?hw8008 ?_
        case hw8008 => kernel_rfl
        intro K hK
        go_simp
        refine hK _ _ ?_
        clear hK K
        go_wp2
        refine bodyPost_ret (results_tmp2 rfl _ _ _) rfl ?_
        refine ⟨_, rfl, HU.out.kept, D, HU.out.own.ss, fun h => HX.out.2 ?_⟩
        have h1 := HX.out.1
        rw [h] at h1
        unfold gEnd at h1
        split at h1
        · assumption
        · exact h1
    · have hki : ¬ (i : Int) < (n0 : Int) := by omega
      have HK := Lib.hid hk
      clear hk
      have HX := Lib.hid (HEN.out (fun _ => by have := HK.out; omega))
      go_upto_region 18 with fail
      refine wp_region_lit ?_
      refine @BigFrame.wpList_want _ _ _ _ _ _ _ ?hw8005 ?_
      case hw8005 => kernel_rfl
      intro K hK
      go_simp
      refine hK _ _ ?_
      clear hK K
      refine @BigFrame.wpList_want _ _ _ _ _ _ _ ?hw8006 ?_
      case hw8006 => kernel_rfl
      intro K hK
      go_simp
      refine hK _ _ ?_
      clear hK K
      refine @BigFrame.wpList_want _ _ _ _ _ _ _ ?hw8004 ?_
      case hw8004 => kernel_rfl
      intro K hK
      go_simp
      go_at_call 38
      refine (HE2.out).mono ?_
      rintro e2 w9 ⟨rfl, hw9⟩
      subst w9
      rw [HX.out.1]
      refine hK _ _ ?_
      clear hK K
      refine @BigFrame.wpList_want _ _ _ _ _ _ _ ?hw8007 ?_
      case hw8007 => kernel_rfl
      intro K hK
      go_simp
      refine hK _ _ ?_
      clear hK K
      refine @BigFrame.wpList_want _ _ _ _ _ _ _ ?hw8008 ?_
      case hw8008 => kernel_rfl
      intro K hK
      go_simp
      refine hK _ _ ?_
      clear hK K
      go_wp2
      refine bodyPost_ret (results_tmp2 rfl _ _ _) rfl ?_
      refine ⟨_, rfl, HU.out.kept, D, HU.out.own.ss, fun h => HX.out.2 ?_⟩
      have h1 := HX.out.1
      rw [h] at h1
      unfold gEnd at h1
      split at h1
      · assumption
      · exact h1

end Go.Proofs.YtdnnccnicaoniaaDoor
