/-
  TreeRefCopy; TreeRefBlank; TreeRefRenew; TreeRefRemove: several texts in one.
-/
import Derived.Test.YtmmgekchfgmcdaaHA
import Derived.Test.YtmmgekchfgmcdaaHB
import Derived.Test.YtmmgekchfgmcdaaBoughRefs

namespace Go.Proofs.Ytmmgekchfgmcdaa
open Go.RowKit Go.Lib

set_option maxRecDepth 100000 in
set_option maxHeartbeats 6400000 in
theorem refcopy_calls (lv pv : Value) (L : List Lf) (P : List Pr) (w : World) (hL : Lvs w lv L) (hP : Pts w pv P) (hn : L.length ≤ 1000) (hp : P.length ≤ 1000) (hpl : ∀ p ∈ P, p.loose.length ≤ 1000) :
    Calls Try.prog 51 #[.agg #[lv, pv]] w fun e w' => ∃ lv' pv', e = .returned (.agg #[lv', pv']) ∧ Kept w.heap.size w.heap.size w w' ∧ ∃ SL, Mine (fun k => k < w.heap.size) w' lv' pv' L P SL := by
  obtain ⟨lad, lg, lo, lc, rfl, hlc, _⟩ := hL
  obtain ⟨pad, pg, po, pc, rfl, hpc, _⟩ := hP
  obtain ⟨ln, hln⟩ : ∃ ln, ln = L.length := ⟨_, rfl⟩
  obtain ⟨pn, hpn⟩ : ∃ pn, pn = P.length := ⟨_, rfl⟩
  rw [← hln, ← hpn]
  have hln9 : (ln : Int) ≤ 1000 := by omega
  have hpn9 : (pn : Int) ≤ 1000 := by omega
  have HLN := Lib.hid hln
  have HPN := Lib.hid hpn
  have HLB := Lib.hid (show ln ≤ 1000 by omega)
  have HPB := Lib.hid (show pn ≤ 1000 by omega)
  have HPL := Lib.hid hpl
  have HLC := Lib.hid hlc
  have HPC := Lib.hid hpc
  clear hn hp hpl hln hpn hlc hpc
  go_enter Try.func51, Try.ntmps51
  go_upto_region 1 with fail
  have k1 := (Kept.refl w.heap.size w.heap.size w).alloc (Nat.le_refl _) (.cells #[.slice lad ln lc, .slice pad pn pc] 27)
  have t1 := heap_new w (.cells #[.slice lad ln lc, .slice pad pn pc] 27)
  have s1 : (w.alloc (.cells #[.slice lad ln lc, .slice pad pn pc] 27)).heap.size = w.heap.size + 1 := by simp
  generalize w.alloc (.cells #[.slice lad ln lc, .slice pad pn pc] 27) = wa at k1 t1 s1 ⊢
  have k2 := (Kept.refl wa.heap.size wa.heap.size wa).alloc (Nat.le_refl _) (.cells #[.slice none 0 0, .slice none 0 0] 27)
  have r2 := heap_new wa (.cells #[.slice none 0 0, .slice none 0 0] 27)
  have s2 : (wa.alloc (.cells #[.slice none 0 0, .slice none 0 0] 27)).heap.size = wa.heap.size + 1 := by simp
  have t2 := (k2.block _ (lt_of_block t1) (Nat.ne_of_lt (lt_of_block t1))).trans t1
  generalize wa.alloc (.cells #[.slice none 0 0, .slice none 0 0] 27) = wb at k2 r2 s2 t2 ⊢
  refine wp_region_lit ?_
  refine @wpL_build0 _ _ _ _ _ _ _ ?hw41001 27 rfl _ (build_tree0 _) ?_
  case hw41001 => kernel_rfl
  simp only [Act.put, List.setIfInBounds_toArray, List.set_cons_zero, List.set_cons_succ]
  refine @wpL_alloc _ _ _ _ _ _ _ _ ?hw41002 27 rfl _ (alloc_tree _) ?_
  case hw41002 => kernel_rfl
  simp only [Act.put, List.setIfInBounds_toArray, List.set_cons_zero, List.set_cons_succ]
  refine wpList_store_row rfl 27 _ _ rfl (wb.heap.size) #[.slice none 0 0, .slice none 0 0] rfl rfl 27 #[.slice none 0 0, .slice none 0 0] (heap_new _ _) (treeInfo) (rfl) (tree_all _ _ _ _ _ _) ?_
  simp only [Act.put]
  rw [World.setRow_alloc_new]
  have k3 := (Kept.refl wb.heap.size wb.heap.size wb).alloc (Nat.le_refl _) (.cells #[.slice none 0 0, .slice none 0 0] 27)
  have o3 := heap_new wb (.cells #[.slice none 0 0, .slice none 0 0] 27)
  have s3 : (wb.alloc (.cells #[.slice none 0 0, .slice none 0 0] 27)).heap.size = wb.heap.size + 1 := by simp
  have t3 := (k3.block _ (lt_of_block t2) (Nat.ne_of_lt (lt_of_block t2))).trans t2
  have r3 := (k3.block _ (lt_of_block r2) (Nat.ne_of_lt (lt_of_block r2))).trans r2
  generalize wb.alloc (.cells #[.slice none 0 0, .slice none 0 0] 27) = w1 at k3 o3 s3 t3 r3 ⊢
  have K1 := Lib.hid ((k1.next1 k2).next1 k3)
  rw [s2, s1] at o3 s3
  rw [s1] at r3
  (try rw [s2])
  (try rw [s1])
  obtain ⟨tb, htb⟩ : ∃ tb, tb = w.heap.size := ⟨_, rfl⟩
  obtain ⟨rb, hrb⟩ : ∃ rb, rb = w.heap.size + 1 := ⟨_, rfl⟩
  obtain ⟨ob, hob⟩ : ∃ ob, ob = w.heap.size + 1 + 1 := ⟨_, rfl⟩
  obtain ⟨sz, hsz⟩ : ∃ sz, sz = w.heap.size + 1 + 1 + 1 := ⟨_, rfl⟩
  rw [← hob] at o3
  (try rw [← hob])
  rw [← hrb] at r3
  (try rw [← hrb])
  rw [← htb] at t3
  (try rw [← htb])
  rw [← hsz] at s3
  have HTB := Lib.hid (show tb < sz by omega)
  have HRB := Lib.hid (show rb < sz by omega)
  have HOB := Lib.hid (show ob < sz by omega)
  have HTR := Lib.hid (show tb ≠ rb by omega)
  have HTO := Lib.hid (show tb ≠ ob by omega)
  have HRO := Lib.hid (show rb ≠ ob by omega)
  have HWT := Lib.hid (show ¬ tb < w.heap.size by omega)
  have HWR := Lib.hid (show ¬ rb < w.heap.size by omega)
  have HWO := Lib.hid (show ¬ ob < w.heap.size by omega)
  have HWS := Lib.hid (show w.heap.size ≤ sz by omega)
  have T1 := Lib.hid t3
  have R1 := Lib.hid r3
  have O1 := Lib.hid o3
  have M1 := Lib.hid (Mine.empty (fun k => k < sz) w1 (fun k e => by omega))
  clear k1 t1 s1 k2 r2 s2 t2 k3 o3 s3 t3 r3 htb hrb hob hsz
  go_wp2
  go_loopw [4] (fun s4 wr => ∃ i : Nat, ∃ vl, s4 = .int .i64 (i : Int) ∧ Hid (i ≤ ln) ∧ Hid (Mine (fun k => k < sz) wr vl (.slice none 0 0) (L.take i) [] []) ∧ Hid (Kept w.heap.size w.heap.size w wr) ∧ Hid (wr.heap[tb]? = some (.cells #[.slice lad ln lc, .slice pad pn pc] 27 (0, 0))) ∧ Hid (wr.heap[rb]? = some (.cells #[.slice none 0 0, .slice none 0 0] 27 (0, 0))) ∧ Hid (wr.heap[ob]? = some (.cells #[vl, .slice none 0 0] 27 (0, 0)))) (fun s4 _ => ln - (RowKit.intOf s4).toNat)
  case atStart => exact ⟨0, _, rfl, Lib.hid (Nat.zero_le _), M1, K1, T1, R1, O1⟩
  case round =>
    obtain ⟨i, vl, rfl, hi, HM, HK, HT, HR, HO⟩ := hrel
    obtain ⟨vad, vc, hv⟩ := HM.out.lvs.shape
    subst hv
    obtain ⟨vn, hvn⟩ : ∃ vn, vn = (L.take i).length := ⟨_, rfl⟩
    rw [← hvn] at HM HO
    have t0 := two_cell0 HT.out
    by_cases hlt : i < ln
    · have hiL : i < L.length := by rw [← HLN.out]; exact hlt
      have hlti : (i : Int) < (ln : Int) := by omega
      have hi0 : ¬ (i : Int) < 0 := by omega
      obtain ⟨rfl, hg, hok, hr⟩ := HLC.out i hiL
      have hrw := rangeAt_kept HK.out hr hg (Nat.ne_of_lt hg)
      obtain ⟨wd, hwd⟩ : ∃ wd, wd = wr.drew := ⟨_, rfl⟩
      have hkd : Kept wr.heap.size wr.heap.size wr wd := by rw [hwd]; exact (Kept.refl _ _ _).drew
      have hrd := rangeAt_kept hkd hrw (Nat.lt_of_lt_of_le hg HK.out.size) (Nat.ne_of_lt (Nat.lt_of_lt_of_le hg HK.out.size))
      have md := HM.out.kept hkd
      have td := (hkd.block tb (lt_of_block HT.out) (Nat.ne_of_lt (lt_of_block HT.out))).trans HT.out
      have rd := (hkd.block rb (lt_of_block HR.out) (Nat.ne_of_lt (lt_of_block HR.out))).trans HR.out
      have od := (hkd.block ob (lt_of_block HO.out) (Nat.ne_of_lt (lt_of_block HO.out))).trans HO.out
      have kd := HK.out.next1 hkd
      have hgd : lg < wd.heap.size := Nat.lt_of_lt_of_le hg kd.size
      have hgs : lg < sz := Nat.lt_of_lt_of_le hg HWS.out
      have HT2 := Lib.hid (fun (w' : World) (h : Frm (fun k => k < sz) wd w') => load_slice (d := .int .u8) (two_cell0 ((h.block tb (lt_of_block td) HTB.out).trans td)) (.inl rfl) rfl)
      have HO2 := Lib.hid (fun (w' : World) (h : Frm (fun k => k < sz) wd w') => load_slice (d := .int .u8) (two_cell0 ((h.block ob (lt_of_block od) HOB.out).trans od)) (.inl rfl) rfl)
      have HL2 := Lib.hid (fun (w' : World) (h : Frm (fun k => k < sz) wd w') => h.range hrd hgd hgs)
      -- the leaf put behind
      have mb := md.alloc (.cells L[i].cells.toArray 36)
      have fb := (Frm.refl (fun k => k < sz) wd).alloc (.cells L[i].cells.toArray 36)
      have kb := kd.next1 ((Kept.refl wd.heap.size wd.heap.size wd).alloc (Nat.le_refl _) (.cells L[i].cells.toArray 36))
      have hnb := heap_new wd (.cells L[i].cells.toArray 36)
      have eb := build_leaf1 wd L[i] hok
      obtain ⟨v3, w3, e3, m3, g3⟩ := mb.moreLeaf wd.heap.size 1 L[i] hok (rangeAt_row hnb) (by rw [← hvn]; have := HLB.out; rw [hvn, List.length_take]; omega)
      rw [← List.take_succ_eq_append_getElem hiL] at m3
      obtain ⟨v3ad, v3c, hv3⟩ := m3.lvs.shape
      subst hv3
      obtain ⟨v3n, hv3n⟩ : ∃ v3n, v3n = (L.take (i + 1)).length := ⟨_, rfl⟩
      rw [← hv3n] at e3 m3
      have f3 := fb.trans (grown_fr (B := fun k => k < sz) g3 (fun g e => mb.ol g e))
      have k3 := kb.grown g3 kb.size (fun g e => by have := mb.ol g e; have := HWS.out; omega)
      have t3 := (f3.block tb (lt_of_block td) HTB.out).trans td
      have r3 := (f3.block rb (lt_of_block rd) HRB.out).trans rd
      have o3 := (f3.block ob (lt_of_block od) HOB.out).trans od
      have g4 := grown_set w3 ob 0 (.slice v3ad v3n v3c)
      have m4 := m3.aside (b := ob) HOB.out g4
      have k4 := k3.grown g4 k3.size (fun g e => by cases e; have := HWO.out; omega)
      have t4 := (g4.block tb (lt_of_block t3) (fun e => HTO.out (Option.some.inj e))).trans t3
      have r4 := (g4.block rb (lt_of_block r3) (fun e => HRO.out (Option.some.inj e))).trans r3
      have o4 : (w3.setCell ⟨ob, 0, none⟩ (.slice v3ad v3n v3c)).heap[ob]? = some (.cells #[.slice v3ad v3n v3c, .slice none 0 0] 27 (0, 0)) := cells_set (cs := [.slice vad vn vc, .slice none 0 0]) o3 0 (.slice v3ad v3n v3c)
      have hinf : (Try.prog.info? 36).map (·.size) = some L[i].cells.length := by have := leafInfo (Lf.size hok); simpa using this
      obtain ⟨D, hD⟩ : ∃ D, D = L[i].cells := ⟨_, rfl⟩
      rw [← hD] at HL2 mb fb kb hnb eb e3 g3 hinf
      generalize wd.alloc (.cells D.toArray 36) = w2 at fb kb eb e3 g3 hnb mb
      have HF2 := Lib.hid fb
      have EB := Lib.hid eb
      have E3 := Lib.hid e3
      have F3 := Lib.hid f3
      have HINF := Lib.hid hinf
      have O3 := Lib.hid o3
      have K4 := Lib.hid k4
      have T4 := Lib.hid t4
      have R4 := Lib.hid r4
      have O4 := Lib.hid o4
      have M4 := Lib.hid m4
      have HLT := Lib.hid hlt
      clear hi hlt hiL hg hok hr hrw hkd hrd md td rd od kd hgd hgs mb fb kb hnb eb e3 m3 g3 f3 k3 t3 r3 o3 g4 m4 k4 t4 r4 o4 hinf hD hvn hv3n HM HK
      go_upto_region 5 with fail
      refine wp_region_noPanic ?_
      refine wp_region_heldTo 10 (S := fun w' => Frm (fun k => k < sz) wd w') (by kernel_rfl) (by rw [hwd]; exact Frm.refl _ _) (fun hH => ?_)
      rw [← hwd] at hH ⊢
      clear hwd t0
      refine heldTo_take (i := 0) 17 (.pointer (some ⟨ob, 0, none⟩)) rfl rfl (by kernel_rfl) (by kernel_rfl) (by kernel_rfl) (by kernel_rfl) (fun _ _ _ h => h) (.inl ⟨by kernel_rfl, fun w9 _ => by go_simp; first | done | rfl⟩) hH ?_
      simp only [List.setIfInBounds_toArray, List.set_cons_zero, List.set_cons_succ]
      refine heldTo_take (i := 1) 18 (.slice vad vn vc) rfl rfl (by kernel_rfl) (by kernel_rfl) (by kernel_rfl) (by kernel_rfl) (fun _ _ _ h => h) (yieldsIf_load_known (by kernel_rfl) 24 _ rfl (ob) (0) rfl (.slice vad vn vc) (HO2.out)) hH ?_
      simp only [List.setIfInBounds_toArray, List.set_cons_zero, List.set_cons_succ]
      refine heldTo_take (i := 2) 19 (.pointer (some ⟨tb, 0, none⟩)) rfl rfl (by kernel_rfl) (by kernel_rfl) (by kernel_rfl) (by kernel_rfl) (fun _ _ _ h => h) (.inl ⟨by kernel_rfl, fun w9 _ => by go_simp; first | done | rfl⟩) hH ?_
      simp only [List.setIfInBounds_toArray, List.set_cons_zero, List.set_cons_succ]
      refine heldTo_take (i := 3) 20 (.slice (some ⟨lg, lo, none⟩) ln lc) rfl rfl (by kernel_rfl) (by kernel_rfl) (by kernel_rfl) (by kernel_rfl) (fun _ _ _ h => h) (yieldsIf_load_known (by kernel_rfl) 24 _ rfl (tb) (0) rfl (.slice (some ⟨lg, lo, none⟩) ln lc) (HT2.out)) hH ?_
      simp only [List.setIfInBounds_toArray, List.set_cons_zero, List.set_cons_succ]
      refine heldTo_take (i := 4) 21 (.int .i64 (i : Int)) rfl rfl (by kernel_rfl) (by kernel_rfl) (by kernel_rfl) (by kernel_rfl) (fun _ _ _ h => h) (.inl ⟨by kernel_rfl, fun w9 _ => by go_simp; first | done | rfl⟩) hH ?_
      simp only [List.setIfInBounds_toArray, List.set_cons_zero, List.set_cons_succ]
      refine heldTo_take (i := 5) 22 (.pointer (some ⟨lg, lo + i * 97, none⟩)) rfl rfl (by kernel_rfl) (by kernel_rfl) (by kernel_rfl) (by kernel_rfl) (fun _ _ _ h => h) (.inl ⟨by kernel_rfl, fun w9 _ => by go_simp; first | done | rfl⟩) hH ?_
      simp only [List.setIfInBounds_toArray, List.set_cons_zero, List.set_cons_succ]
      refine heldTo_take (i := 6) 23 (.agg D.toArray) rfl rfl (by kernel_rfl) (by kernel_rfl) (by kernel_rfl) (by kernel_rfl) (fun _ _ _ h => h) (yieldsIf_load_mid (by kernel_rfl) 36 _ rfl (lg) (lo + i * 97) rfl D _ HL2.out Try.underlying36 rfl HINF.out) hH ?_
      simp only [List.setIfInBounds_toArray, List.set_cons_zero, List.set_cons_succ]
      refine heldTo_one (i := 7) (by kernel_rfl) rfl (fun K hK => ?_)
      rw [if_pos (by rfl)]
      refine wp_build_known 24 (.tmp 23) rfl (some 24) rfl (.agg D.toArray) _ rfl EB.out ?_
      simp only [Act.put, List.setIfInBounds_toArray, List.set_cons_zero, List.set_cons_succ]
      refine hK.out _ _ HF2.out (fun hH => ?_)
      clear hK K
      refine heldTo_one (i := 8) (by kernel_rfl) rfl (fun K hK => ?_)
      rw [if_pos (by rfl)]
      refine wp_append_dst (.tmp 18) (.tmp 24) 24 24 24 rfl rfl (some 25) rfl (.slice vad vn vc) (.slice (some ⟨wd.heap.size, 0, none⟩) 1 1) (.slice v3ad v3n v3c) rfl rfl E3.out ?_
      simp only [Act.put, List.setIfInBounds_toArray, List.set_cons_zero, List.set_cons_succ]
      refine hK.out _ _ F3.out (fun hH => ?_)
      clear hK K
      refine heldTo_take (i := 9) 26 (.pointer (some ⟨ob, 0, none⟩)) rfl rfl (by kernel_rfl) (by kernel_rfl) (by kernel_rfl) (by kernel_rfl) (fun _ _ _ h => h) (.inl ⟨by kernel_rfl, fun w9 _ => by go_simp; first | done | rfl⟩) hH ?_
      simp only [List.setIfInBounds_toArray, List.set_cons_zero, List.set_cons_succ]
      refine heldTo_last (by kernel_rfl) rfl (fun K hK => ?_)
      rw [if_pos (by rfl)]
      refine wp_store_part_none 24 _ _ rfl rfl ob 0 [.slice vad vn vc, .slice none 0 0] 27 (.slice v3ad v3n v3c) rfl rfl O3.out (by simp) rfl (by kernel_rfl) ?_
      refine hK.out _ _ ?_
      clear hK K
      refine heldTo_done (by kernel_rfl) ?_ _
      refine NoPanic.normal ?_
      generalize w3.setCell ⟨ob, 0, none⟩ (.slice v3ad v3n v3c) = w4 at K4 T4 R4 O4 M4 ⊢
      go_wp2
      go_roundw
      case rel => exact ⟨i + 1, _, by simp, Lib.hid HLT.out, M4, K4, T4, R4, O4⟩
      case measure => have := HLT.out; simp [RowKit.intOf]; omega
    · have hnl : ¬ (i : Int) < (ln : Int) := by omega
      have HE := Lib.hid (show i = ln by have := hi.out; omega)
      clear hlt hi
      rw [HE.out] at HM
      rw [HLN.out, List.take_length] at HM
      have hvn2 : vn = L.length := by rw [hvn, HE.out, HLN.out, List.take_length]
      clear hvn
      go_upto_region 6 with fail
      clear t0
      go_wp2
      go_loopw [5] (fun s5 wr => ∃ i : Nat, ∃ vp, s5 = .int .i64 (i : Int) ∧ Hid (i ≤ pn) ∧ ∃ SL, Hid (Mine (fun k => k < sz) wr (.slice vad vn vc) vp L (P.take i) SL) ∧ Hid (Kept w.heap.size w.heap.size w wr) ∧ Hid (wr.heap[tb]? = some (.cells #[.slice lad ln lc, .slice pad pn pc] 27 (0, 0))) ∧ Hid (wr.heap[rb]? = some (.cells #[.slice none 0 0, .slice none 0 0] 27 (0, 0))) ∧ Hid (wr.heap[ob]? = some (.cells #[.slice vad vn vc, vp] 27 (0, 0)))) (fun s5 _ => pn - (RowKit.intOf s5).toNat)
      case atStart => exact ⟨0, _, rfl, Lib.hid (Nat.zero_le _), [], HM, HK, HT, HR, HO⟩
      case round =>
        clear HM HK HT HR HO
        obtain ⟨i, vp, rfl, hi, SL, HM, HK, HT, HR, HO⟩ := hrel
        obtain ⟨qad, qc, hq⟩ := HM.out.pts.shape
        subst hq
        obtain ⟨qn, hqn⟩ : ∃ qn, qn = (P.take i).length := ⟨_, rfl⟩
        rw [← hqn] at HM HO
        clear hqn
        have t0 := two_cell1 HT.out
        by_cases hlt : i < pn
        · have hiP : i < P.length := by rw [← HPN.out]; exact hlt
          have hlti : (i : Int) < (pn : Int) := by omega
          have hi0 : ¬ (i : Int) < 0 := by omega
          obtain ⟨rfl, hg, hok, sl, hr, hnums⟩ := HPC.out i hiP
          have hrw := rangeAt_kept HK.out hr hg (Nat.ne_of_lt hg)
          have hl9 := HPL.out _ (List.getElem_mem hiP)
          obtain ⟨sad, sc, ng, no, rfl, hnc⟩ := hnums
          -- the box of the parent
          have hmb := HM.out.box (.cells (P[i].cells (.slice sad P[i].loose.length sc)).toArray 70)
          have kb := HK.out.alloc HK.out.size (.cells (P[i].cells (.slice sad P[i].loose.length sc)).toArray 70)
          have hpb := heap_new wr (.cells (P[i].cells (.slice sad P[i].loose.length sc)).toArray 70)
          have htb2 := (heap_alloc_old wr (.cells (P[i].cells (.slice sad P[i].loose.length sc)).toArray 70) (lt_of_block HT.out)).trans HT.out
          have hrb2 := (heap_alloc_old wr (.cells (P[i].cells (.slice sad P[i].loose.length sc)).toArray 70) (lt_of_block HR.out)).trans HR.out
          have hob2 := (heap_alloc_old wr (.cells (P[i].cells (.slice sad P[i].loose.length sc)).toArray 70) (lt_of_block HO.out)).trans HO.out
          have hpbl := pr_loose hok hpb
          have hla := run_loadVar_mid wr pg (po + i * 66) 70 _ _ hrw Try.underlying70 rfl (by have := parentInfo (Pr.size hok (.slice sad P[i].loose.length sc)); simpa using this)
          have hsz := Pr.size hok (.slice sad P[i].loose.length sc)
          have hall := Pr.all P[i] sad P[i].loose.length sc
          obtain ⟨pb, hpbe⟩ : ∃ pb, pb = wr.heap.size := ⟨_, rfl⟩
          have hps : sz ≤ pb := by
            have h1 := lt_of_block HO.out
            have h2 := HM.out.bnd
            rw [hpbe]
            rcases Nat.lt_or_ge wr.heap.size sz with h | h
            · exact absurd (h2 _ h) (Nat.lt_irrefl _)
            · exact h
          have g1 := grown_set (wr.alloc (.cells (P[i].cells (.slice sad P[i].loose.length sc)).toArray 70)) pb 65 (.slice none 0 0)
          rw [← hpbe] at hmb hpb hpbl
          have m1 := hmb.aside (b := pb) (.inr rfl) g1
          have p1 := cells_set hpb 65 (.slice none 0 0)
          rw [pr_set hok] at p1
          have kk1 := kb.grown g1 kb.size (fun k e => by cases e; rw [hpbe]; exact HK.out.size)
          have hne : ∀ k, k < sz → some k ≠ some pb := fun k hk e => by have := Option.some.inj e; omega
          have tt1 := (g1.block tb (lt_of_block htb2) (hne tb HTB.out)).trans htb2
          have rr1 := (g1.block rb (lt_of_block hrb2) (hne rb HRB.out)).trans hrb2
          have oo1 := (g1.block ob (lt_of_block hob2) (hne ob HOB.out)).trans hob2
          have hcl : (P[i].cells (.slice sad P[i].loose.length sc)).length = 66 := Pr.cells_length hok _
          obtain ⟨p, hpp⟩ : ∃ p, p = P[i] := ⟨_, rfl⟩
          have HPP := Lib.hid (show P.take (i + 1) = P.take i ++ [p] by rw [hpp]; exact List.take_succ_eq_append_getElem hiP)
          rw [← hpp] at hok hl9 hnc hmb kb hpb hpbl hla hsz hall g1 m1 p1 kk1 tt1 rr1 oo1 htb2 hrb2 hob2 hcl
          obtain ⟨sn, hsn⟩ : ∃ sn, sn = p.loose.length := ⟨_, rfl⟩
          rw [← hsn] at hl9 hmb kb hpb hpbl hla hsz hall g1 m1 p1 kk1 tt1 rr1 oo1 htb2 hrb2 hob2 hcl
          obtain ⟨D, hD⟩ : ∃ D, D = p.cells (.slice sad sn sc) := ⟨_, rfl⟩
          rw [← hD] at hmb kb hpb hpbl hla hsz hall g1 m1 p1 kk1 tt1 rr1 oo1 htb2 hrb2 hob2 hcl
          have HOK := Lib.hid hok
          have HL9 := Lib.hid hl9
          have HSN := Lib.hid hsn
          have HNC := Lib.hid hnc
          have hsn9 : (sn : Int) ≤ 1000 := by omega
          have HPBB := Lib.hid hpb
          have HPBL := Lib.hid hpbl
          have HLA := Lib.hid hla
          have HSZ := Lib.hid hsz
          have HALL := Lib.hid hall
          have HCL := Lib.hid hcl
          have HPS := Lib.hid hps
          have HPW := Lib.hid (show w.heap.size ≤ pb by rw [hpbe]; exact HK.out.size)
          have M1 := Lib.hid m1
          have P1 := Lib.hid p1
          have KK1 := Lib.hid kk1
          have TT1 := Lib.hid tt1
          have RR1 := Lib.hid rr1
          have OO1 := Lib.hid oo1
          have HLT := Lib.hid hlt
          have HPG := Lib.hid (show pb < (wr.alloc (.cells D.toArray 70)).heap.size from lt_of_block hpb)
          clear hi hlt hiP hg hok hr hrw hl9 hnc hmb kb hpb htb2 hrb2 hob2 hpbl hla hsz hall g1 m1 p1 kk1 tt1 rr1 oo1 hpp hsn hD hcl hps hne HM HK HT HR HO
          go_upto_region 9 with fail
          refine wp_region_lit ?_
          refine @BigFrame.wpList_want _ _ _ _ _ _ _ ?hw41003 ?_
          case hw41003 => kernel_rfl
          intro K hK
          go_simp
          refine hK _ _ ?_
          clear hK K
          refine @BigFrame.wpList_want _ _ _ _ _ _ _ ?hw41004 ?_
          case hw41004 => kernel_rfl
          intro K hK
          go_simp
          refine hK _ _ ?_
          clear hK K
          refine @BigFrame.wpList_want _ _ _ _ _ _ _ ?hw41005 ?_
          case hw41005 => kernel_rfl
          intro K hK
          go_simp
          refine hK _ _ ?_
          clear hK K
          refine @BigFrame.wpList_want _ _ _ _ _ _ _ ?hw41006 ?_
          case hw41006 => kernel_rfl
          intro K hK
          go_simp
          refine hK _ _ ?_
          clear hK K
          refine @wpList_load_known _ _ _ _ _ _ _ ?hw41007 70 (.tmp 37) rfl (pg) (po + i * 66) rfl (.agg D.toArray) (HLA.out) ?_
          case hw41007 => kernel_rfl
          simp only [Act.put, List.setIfInBounds_toArray, List.set_cons_zero, List.set_cons_succ]
          refine @wpL_alloc _ _ _ _ _ _ _ _ ?hw41008 70 rfl _ (alloc_parent _) ?_
          case hw41008 => kernel_rfl
          simp only [Act.put, List.setIfInBounds_toArray, List.set_cons_zero, List.set_cons_succ]
          refine wpList_store_row rfl 70 _ _ rfl (wr.heap.size) D.toArray rfl rfl 70 (Pr.zero.cells (.slice none 0 0)).toArray (heap_new _ _) (parentInfo HSZ.out) (by rw [HSZ.out]; exact Pr.size Pr.zero_ok _) (HALL.out) ?_
          simp only [Act.put]
          rw [World.setRow_alloc_new]
          rw [← hpbe]
          generalize wr.alloc (.cells D.toArray 70) = wb2 at HPBB HPBL M1 P1 KK1 TT1 RR1 OO1 HPG ⊢
          clear hpbe t0
          have c65 := HPBL.out
          go_upto_region 11 with fail
          refine wp_region_lit ?_
          refine @BigFrame.wpList_want _ _ _ _ _ _ _ ?hw41009 ?_
          case hw41009 => kernel_rfl
          intro K hK
          go_simp
          refine hK _ _ ?_
          clear hK K
          refine @wpL_store_part _ _ _ _ _ _ _ ?hw65a 29 _ _ rfl (pb) 65 D 70 (.slice none 0 0) rfl rfl HPBB.out (by rw [HCL.out]; decide) rfl (by kernel_rfl) ?_
          case hw65a => kernel_rfl
          simp only [Act.put]
          have HPI := Lib.hid (show pb < (wb2.setCell ⟨pb, 65, none⟩ (.slice none 0 0)).heap.size from lt_of_block P1.out)
          generalize wb2.setCell ⟨pb, 65, none⟩ (.slice none 0 0) = wi at M1 P1 KK1 TT1 RR1 OO1 HPI ⊢
          clear c65 HPBB HPBL HPG
          go_wp2
          go_loopw [8] (fun s8 wr => ∃ j : Nat, ∃ s, s8 = .int .i64 (j : Int) ∧ Hid (j ≤ sn) ∧ Hid (Kept wi.heap.size pb wi wr) ∧ Hid (wr.heap[pb]? = some (.cells (p.cells s).toArray 70 (0, 0))) ∧ Hid (Ints wr wi.heap.size s (p.loose.take j))) (fun s8 _ => sn - (RowKit.intOf s8).toNat)
          case atStart => exact ⟨0, _, rfl, Lib.hid (Nat.zero_le _), Lib.hid (Kept.refl _ _ _), P1, Lib.hid (World.ownsRow_nil _ _ _ _)⟩
          case round =>
            obtain ⟨j, s, rfl, hj, HX, HXP, HXI⟩ := hrel
            obtain ⟨xad, xn, xc, hxs⟩ := one_slice HXI.out
            subst hxs
            by_cases hjl : j < sn
            · have hjL : j < p.loose.length := by rw [← HSN.out]; exact hjl
              have hltj : (j : Int) < (sn : Int) := by omega
              have hj0 : ¬ (j : Int) < 0 := by omega
              obtain ⟨rfl, hng, hncell⟩ := HNC.out j hjL
              have kx := KK1.out.overB HX.out HPW.out
              obtain ⟨wd, hwd⟩ : ∃ wd, wd = wr.drew := ⟨_, rfl⟩
              have hkd : Kept wr.heap.size wr.heap.size wr wd := by rw [hwd]; exact (Kept.refl _ _ _).drew
              have kd := kx.next1 hkd
              have hkdi : Kept wi.heap.size pb wi wd := by rw [hwd]; exact HX.out.drew
              have hcd : wd.cell? ⟨ng, no + j, none⟩ = some (.int .i64 p.loose[j]) := (kd.cell (p := ⟨ng, no + j, none⟩) hng (Nat.ne_of_lt hng)).trans hncell
              have pd := (hkd.block pb (lt_of_block HXP.out) (Nat.ne_of_lt (lt_of_block HXP.out))).trans HXP.out
              have idd := HXI.out.kept hkd
              have hngd : ng < wd.heap.size := Nat.lt_of_lt_of_le hng kd.size
              have hwi : wi.heap.size ≤ wd.heap.size := hkdi.size
              have HS2 := Lib.hid (fun (w' : World) (h : Frm (fun k => k < wi.heap.size) wd w') => load_ints (pr_loose HOK.out ((h.block pb (lt_of_block pd) HPI.out).trans pd)))
              have HN2 := Lib.hid (fun (w' : World) (h : Frm (fun k => k < wi.heap.size) wd w') => load_int ((h.cell (p := ⟨ng, no + j, none⟩) hngd (Nat.lt_of_lt_of_le hng KK1.out.size)).trans hcd))
              obtain ⟨x, hx⟩ : ∃ x, x = p.loose[j] := ⟨_, rfl⟩
              have hnxt : p.loose.take (j + 1) = p.loose.take j ++ [x] := by rw [hx]; exact List.take_succ_eq_append_getElem hjL
              rw [← hx] at HN2
              have ib := idd.alloc (.cells #[.int .i64 x] 3)
              have fb := (Frm.refl (fun k => k < wi.heap.size) wd).alloc (.cells #[.int .i64 x] 3)
              have kbi := hkdi.alloc hwi (.cells #[.int .i64 x] 3)
              have pbb := (fb.block pb (lt_of_block pd) HPI.out).trans pd
              have eb := build_int1 wd x
              obtain ⟨v3, w3, e3, i3, g3⟩ := append_intR _ _ _ _ x ib wd.heap.size 1 (one_cellT (heap_new wd (.cells #[.int .i64 x] 3))) (by have := HL9.out; have := HSN.out; rw [List.length_take]; omega) kbi.size
              rw [← hnxt] at i3
              obtain ⟨yad, yn, yc, hys⟩ := one_slice i3
              subst hys
              have f3 := fb.trans (grown_fr (B := fun k => k < wi.heap.size) g3 (fun g e => Nat.not_lt.2 (World.ownsRow.lt ib g e).1))
              have k3 := kbi.grown g3 kbi.size (fun g e => (World.ownsRow.lt ib g e).1)
              have p3 := (f3.block pb (lt_of_block pd) HPI.out).trans pd
              have g4 := grown_set w3 pb 65 (.slice yad yn yc)
              have k4 := k3.setB g4 k3.size
              have p4 := cells_set p3 65 (.slice yad yn yc)
              rw [pr_set HOK.out] at p4
              have i4 : Ints (w3.setCell ⟨pb, 65, none⟩ (.slice yad yn yc)) wi.heap.size (.slice yad yn yc) (p.loose.take (j + 1)) := World.ownsRow.kept i3 g4 (.inr (fun e => by have := (World.ownsRow.lt i3 pb e).1; have := HPI.out; omega))
              generalize wd.alloc (.cells #[.int .i64 x] 3) = w2 at fb eb e3
              have HF2 := Lib.hid fb
              have EB := Lib.hid eb
              have E3 := Lib.hid e3
              have F3 := Lib.hid f3
              have P3 := Lib.hid p3
              have K4 := Lib.hid k4
              have P4 := Lib.hid p4
              have I4 := Lib.hid i4
              have HJL := Lib.hid hjl
              have hl65 : 65 < (p.cells (.slice xad xn xc)).length := by rw [Pr.cells_length HOK.out]; decide
              have HL65 := Lib.hid hl65
              clear hj hjl hjL hng hncell kx hkd kd hkdi hcd pd idd hngd hwi hnxt hx ib fb kbi pbb eb e3 i3 g3 f3 k3 p3 g4 k4 p4 i4 hl65 HX HXP HXI
              go_upto_region 15 with fail
              refine wp_region_noPanic ?_
              refine wp_region_heldTo 9 (S := fun w' => Frm (fun k => k < wi.heap.size) wd w') (by kernel_rfl) (by rw [hwd]; exact Frm.refl _ _) (fun hH => ?_)
              rw [← hwd] at hH ⊢
              clear hwd
              refine heldTo_take (i := 0) 48 (.pointer (some ⟨pb, 65, none⟩)) rfl rfl (by kernel_rfl) (by kernel_rfl) (by kernel_rfl) (by kernel_rfl) (fun _ _ _ h => h) (.inl ⟨by kernel_rfl, fun w9 _ => by go_simp; first | done | rfl⟩) hH ?_
              simp only [List.setIfInBounds_toArray, List.set_cons_zero, List.set_cons_succ]
              refine heldTo_take (i := 1) 49 (.slice xad xn xc) rfl rfl (by kernel_rfl) (by kernel_rfl) (by kernel_rfl) (by kernel_rfl) (fun _ _ _ h => h) (yieldsIf_load_known (by kernel_rfl) 29 _ rfl (pb) (65) rfl (.slice xad xn xc) (HS2.out)) hH ?_
              simp only [List.setIfInBounds_toArray, List.set_cons_zero, List.set_cons_succ]
              refine heldTo_take (i := 2) 50 (.slice (some ⟨ng, no, none⟩) sn sc) rfl rfl (by kernel_rfl) (by kernel_rfl) (by kernel_rfl) (by kernel_rfl) (fun _ _ _ h => h) (.inl ⟨by kernel_rfl, fun w9 _ => by go_simp; first | done | rfl⟩) hH ?_
              simp only [List.setIfInBounds_toArray, List.set_cons_zero, List.set_cons_succ]
              refine heldTo_take (i := 3) 51 (.int .i64 (j : Int)) rfl rfl (by kernel_rfl) (by kernel_rfl) (by kernel_rfl) (by kernel_rfl) (fun _ _ _ h => h) (.inl ⟨by kernel_rfl, fun w9 _ => by go_simp; first | done | rfl⟩) hH ?_
              simp only [List.setIfInBounds_toArray, List.set_cons_zero, List.set_cons_succ]
              refine heldTo_take (i := 4) 52 (.pointer (some ⟨ng, no + j, none⟩)) rfl rfl (by kernel_rfl) (by kernel_rfl) (by kernel_rfl) (by kernel_rfl) (fun _ _ _ h => h) (.inl ⟨by kernel_rfl, fun w9 _ => by go_simp; first | done | rfl⟩) hH ?_
              simp only [List.setIfInBounds_toArray, List.set_cons_zero, List.set_cons_succ]
              refine heldTo_take (i := 5) 53 (.int .i64 x) rfl rfl (by kernel_rfl) (by kernel_rfl) (by kernel_rfl) (by kernel_rfl) (fun _ _ _ h => h) (yieldsIf_load_known (by kernel_rfl) 3 _ rfl (ng) (no + j) rfl (.int .i64 x) (HN2.out)) hH ?_
              simp only [List.setIfInBounds_toArray, List.set_cons_zero, List.set_cons_succ]
              refine heldTo_one (i := 6) (by kernel_rfl) rfl (fun K hK => ?_)
              rw [if_pos (by rfl)]
              refine wp_build_known 29 (.tmp 53) rfl (some 54) rfl (.int .i64 x) _ rfl EB.out ?_
              simp only [Act.put, List.setIfInBounds_toArray, List.set_cons_zero, List.set_cons_succ]
              refine hK.out _ _ HF2.out (fun hH => ?_)
              clear hK K
              refine heldTo_one (i := 7) (by kernel_rfl) rfl (fun K hK => ?_)
              rw [if_pos (by rfl)]
              refine wp_append_dst (.tmp 49) (.tmp 54) 29 29 29 rfl rfl (some 55) rfl (.slice xad xn xc) (.slice (some ⟨wd.heap.size, 0, none⟩) 1 1) (.slice yad yn yc) rfl rfl E3.out ?_
              simp only [Act.put, List.setIfInBounds_toArray, List.set_cons_zero, List.set_cons_succ]
              refine hK.out _ _ F3.out (fun hH => ?_)
              clear hK K
              refine heldTo_take (i := 8) 56 (.pointer (some ⟨pb, 65, none⟩)) rfl rfl (by kernel_rfl) (by kernel_rfl) (by kernel_rfl) (by kernel_rfl) (fun _ _ _ h => h) (.inl ⟨by kernel_rfl, fun w9 _ => by go_simp; first | done | rfl⟩) hH ?_
              simp only [List.setIfInBounds_toArray, List.set_cons_zero, List.set_cons_succ]
              refine heldTo_last (by kernel_rfl) rfl (fun K hK => ?_)
              rw [if_pos (by rfl)]
              refine wp_store_part_none 29 _ _ rfl rfl pb 65 (p.cells (.slice xad xn xc)) 70 (.slice yad yn yc) rfl rfl P3.out HL65.out rfl (by kernel_rfl) ?_
              refine hK.out _ _ ?_
              clear hK K
              refine heldTo_done (by kernel_rfl) ?_ _
              refine NoPanic.normal ?_
              generalize w3.setCell ⟨pb, 65, none⟩ (.slice yad yn yc) = wy at K4 P4 I4 ⊢
              go_wp2
              go_roundw
              case rel => exact ⟨j + 1, _, by simp, Lib.hid HJL.out, K4, P4, I4⟩
              case measure => have := HJL.out; simp [RowKit.intOf]; omega
            · have hnj : ¬ (j : Int) < (sn : Int) := by omega
              have HE := Lib.hid (show j = sn by have := hj.out; omega)
              clear hjl hj
              have hxi := HXI.out
              rw [HE.out, HSN.out, List.take_length] at hxi
              have gx := HX.out.grewB
              have m2 := M1.out.aside (b := pb) (.inr rfl) gx
              have kx := KK1.out.overB HX.out HPW.out
              obtain ⟨f1, f2, f3, f4⟩ := M1.out.fresh hxi
              have hne : ∀ k, k < sz → some k ≠ some pb := fun k hk e => by have := Option.some.inj e; have := HPS.out; omega
              have tt2 := (gx.block tb (lt_of_block TT1.out) (hne tb HTB.out)).trans TT1.out
              have rr2 := (gx.block rb (lt_of_block RR1.out) (hne rb HRB.out)).trans RR1.out
              have oo2 := (gx.block ob (lt_of_block OO1.out) (hne ob HOB.out)).trans OO1.out
              -- the parent put behind
              have hlb := run_loadVar_row wr pb 70 70 _ (0, 0) _ HXP.out Try.underlying70 rfl (parentInfo (Pr.size HOK.out _))
              have m3 := m2.alloc (.cells (p.cells (.slice xad xn xc)).toArray 70)
              have hnb := heap_new wr (.cells (p.cells (.slice xad xn xc)).toArray 70)
              have kb := kx.alloc kx.size (.cells (p.cells (.slice xad xn xc)).toArray 70)
              have i3 : Ints (wr.alloc (.cells (p.cells (.slice xad xn xc)).toArray 70)) 0 (.slice xad xn xc) p.loose := owns_lower (Ints.alloc hxi _) (Nat.zero_le _)
              have fa := (Frm.refl (fun k => k < sz) wr).alloc (.cells (p.cells (.slice xad xn xc)).toArray 70)
              have eb := build_parent1 wr p HOK.out (.slice xad xn xc)
              obtain ⟨v5, w5, e5, m5, g5⟩ := m3.moreP wr.heap.size 1 p HOK.out _ i3 f4 f1 f2 f3 (rangeAt_row hnb) (by rw [List.length_take]; have := HPB.out; have := HPN.out; omega)
              rw [← HPP.out] at m5
              obtain ⟨yad, yc, hys⟩ := m5.pts.shape
              subst hys
              obtain ⟨yn, hyn⟩ : ∃ yn, yn = (P.take (i + 1)).length := ⟨_, rfl⟩
              rw [← hyn] at e5 m5
              have fa5 := fa.trans (grown_fr (B := fun k => k < sz) g5 (fun g e b => m3.op g e (.inl b)))
              have k5 := kb.grown g5 kb.size (fun g e => by have := m3.op g e; have := HWS.out; omega)
              have tt5 := (fa5.block tb (lt_of_block tt2) HTB.out).trans tt2
              have rr5 := (fa5.block rb (lt_of_block rr2) HRB.out).trans rr2
              have oo5 := (fa5.block ob (lt_of_block oo2) HOB.out).trans oo2
              have g6 := grown_set w5 ob 1 (.slice yad yn yc)
              have m6 := (m5.mono (B' := fun k => k < sz) (fun k b => .inl b)).aside (b := ob) HOB.out g6
              have k6 := k5.grown g6 k5.size (fun k e => by cases e; have := HWO.out; omega)
              have tt6 := (g6.block tb (lt_of_block tt5) (fun e => HTO.out (Option.some.inj e))).trans tt5
              have rr6 := (g6.block rb (lt_of_block rr5) (fun e => HRO.out (Option.some.inj e))).trans rr5
              have oo6 : (w5.setCell ⟨ob, 1, none⟩ (.slice yad yn yc)).heap[ob]? = some (.cells #[.slice vad vn vc, .slice yad yn yc] 27 (0, 0)) := cells_set (cs := [.slice vad vn vc, .slice qad qn qc]) oo5 1 (.slice yad yn yc)
              obtain ⟨D2, hD2⟩ : ∃ D2, D2 = p.cells (.slice xad xn xc) := ⟨_, rfl⟩
              rw [← hD2] at hlb eb e5
              rw [← hD2] at hnb fa kb m3 i3 g5
              generalize wr.alloc (.cells D2.toArray 70) = w4 at eb e5
              have OO2 := Lib.hid oo2
              have t1 := two_cell1 OO2.out
              have HLB2 := Lib.hid hlb
              have EB := Lib.hid eb
              have E5 := Lib.hid e5
              have OO5 := Lib.hid oo5
              have TT6 := Lib.hid tt6
              have RR6 := Lib.hid rr6
              have OO6 := Lib.hid oo6
              have K6 := Lib.hid k6
              have M6 := Lib.hid m6
              clear hxi gx m2 kx f1 f2 f3 f4 hne tt2 rr2 oo2 hlb m3 hnb kb i3 fa eb e5 m5 g5 hyn fa5 k5 tt5 rr5 oo5 g6 m6 k6 tt6 rr6 oo6 hD2 HX HXP HXI
              go_upto_region 16 with fail
              refine wp_region_lit ?_
              refine @BigFrame.wpList_want _ _ _ _ _ _ _ ?hw41010 ?_
              case hw41010 => kernel_rfl
              intro K hK
              go_simp
              refine hK _ _ ?_
              clear hK K
              refine @BigFrame.wpList_want _ _ _ _ _ _ _ ?hw41011 ?_
              case hw41011 => kernel_rfl
              intro K hK
              go_simp
              refine hK _ _ ?_
              clear hK K
              refine @wpList_load_known _ _ _ _ _ _ _ ?hw41012 70 (.tmp 6) rfl (pb) (0) rfl (.agg D2.toArray) (HLB2.out) ?_
              case hw41012 => kernel_rfl
              simp only [Act.put, List.setIfInBounds_toArray, List.set_cons_zero, List.set_cons_succ]
              refine @wpL_build_known _ _ _ _ _ _ _ _ ?hwb16 25 (.tmp 59) rfl (.agg D2.toArray) _ rfl EB.out ?_
              case hwb16 => kernel_rfl
              simp only [Act.put, List.setIfInBounds_toArray, List.set_cons_zero, List.set_cons_succ]
              refine wpList_append_known rfl (.tmp 58) (.tmp 60) 25 25 25 rfl rfl (.slice qad qn qc) (.slice (some ⟨wr.heap.size, 0, none⟩) 1 1) rfl rfl E5.out ?_
              simp only [Act.put, List.setIfInBounds_toArray, List.set_cons_zero, List.set_cons_succ]
              refine @BigFrame.wpList_want _ _ _ _ _ _ _ ?hw41013 ?_
              case hw41013 => kernel_rfl
              intro K hK
              go_simp
              refine hK _ _ ?_
              clear hK K
              refine @wpL_store_part _ _ _ _ _ _ _ ?hw16s 25 _ _ rfl (ob) 1 [.slice vad vn vc, .slice qad qn qc] 27 (.slice yad yn yc) rfl rfl OO5.out (by simp) rfl (by kernel_rfl) ?_
              case hw16s => kernel_rfl
              simp only [Act.put]
              generalize w5.setCell ⟨ob, 1, none⟩ (.slice yad yn yc) = w6 at TT6 RR6 OO6 K6 M6 ⊢
              clear t1
              go_wp2
              go_roundw
              case rel => exact ⟨i + 1, _, by simp, Lib.hid HLT.out, _, M6, K6, TT6, RR6, OO6⟩
              case measure => have := HLT.out; simp [RowKit.intOf]; omega
        · have hnl : ¬ (i : Int) < (pn : Int) := by omega
          have HE := Lib.hid (show i = pn by have := hi.out; omega)
          clear hlt hi
          go_upto_region 17 with fail
          refine wp_region_lit ?_
          refine @wpList_load_known _ _ _ _ _ _ _ ?hw41014 27 (.tmp 3) rfl (ob) (0) rfl (.agg #[.slice vad vn vc, .slice qad qn qc]) (run_loadVar_row wr ob 27 27 _ (0, 0) _ HO.out Try.underlying27 rfl treeInfo) ?_
          case hw41014 => kernel_rfl
          simp only [Act.put, List.setIfInBounds_toArray, List.set_cons_zero, List.set_cons_succ]
          refine wpList_store_row rfl 27 _ _ rfl (rb) #[.slice vad vn vc, .slice qad qn qc] rfl rfl 27 #[.slice none 0 0, .slice none 0 0] HR.out treeInfo rfl (tree_all _ _ _ _ _ _) ?_
          simp only [Act.put]
          have R7 := setRow_heap wr rb _ #[.slice vad vn vc, .slice qad qn qc] _ _ HR.out
          have g7 := grown_setRow wr rb #[.slice vad vn vc, .slice qad qn qc]
          have M7 := Lib.hid (HM.out.aside (b := rb) HRB.out g7)
          have K7 := Lib.hid (HK.out.grown g7 HK.out.size (fun k e => by cases e; exact Nat.le_of_not_lt HWR.out))
          generalize wr.setRow rb #[.slice vad vn vc, .slice qad qn qc] = w7 at R7 g7 M7 K7 ⊢
          go_wp2
          refine bodyPost_ret (results_cell_row rfl _ _ rb 27 _ (0, 0) _ rfl R7 Try.underlying27 rfl treeInfo) rfl ?_
          refine ⟨_, _, rfl, K7.out, SL, ?_⟩
          have hm := M7.out
          rw [HE.out, HPN.out, List.take_length] at hm
          exact hm.mono (fun k b => Nat.lt_of_lt_of_le b HWS.out)

end Go.Proofs.Ytmmgekchfgmcdaa

namespace Go.Proofs.Ytmmgekchfgmcdaa
open Go.RowKit Go.Lib

set_option maxRecDepth 100000 in
set_option maxHeartbeats 6400000 in
theorem refblank_calls (lv pv : Value) (L : List Lf) (P : List Pr) (x : Int) (w : World) (hL : Lvs w lv L) (hP : Pts w pv P) (hn : L.length ≤ 1000) (hp : P.length ≤ 1000) (hpl : ∀ p ∈ P, p.loose.length ≤ 1000) :
    Calls Try.prog 56 #[.agg #[lv, pv], .int .i64 x] w fun e w' => ∃ lv' pv', e = .returned (.agg #[lv', pv']) ∧ Kept w.heap.size w.heap.size w w' ∧ ∃ SL, Mine (fun k => k < w.heap.size) w' lv' pv' L (Tt.holdsTo (L.length : Int) x P P.length) SL := by
  have HCP := Lib.hid (fun (u : World) (kk : Kept w.heap.size w.heap.size w u) => refcopy_calls lv pv L P u (hL.kept kk) (hP.kept kk) hn hp hpl)
  obtain ⟨lad, lc, rfl⟩ := hL.shape
  obtain ⟨pad, pc, rfl⟩ := hP.shape
  obtain ⟨ln, hln⟩ : ∃ ln, ln = L.length := ⟨_, rfl⟩
  obtain ⟨pn, hpn⟩ : ∃ pn, pn = P.length := ⟨_, rfl⟩
  rw [← hln, ← hpn] at HCP ⊢
  have hln9 : (ln : Int) ≤ 1000 := by omega
  have hpn9 : (pn : Int) ≤ 1000 := by omega
  have HLN := Lib.hid hln
  have HPN := Lib.hid hpn
  have HPB := Lib.hid (show pn ≤ 1000 by omega)
  clear hL hP hn hp hpl hln hpn
  have k1 := (Kept.refl w.heap.size w.heap.size w).alloc (Nat.le_refl _) (.cells #[.slice lad ln lc, .slice pad pn pc] 27)
  have t1 := heap_new w (.cells #[.slice lad ln lc, .slice pad pn pc] 27)
  have s1 : (w.alloc (.cells #[.slice lad ln lc, .slice pad pn pc] 27)).heap.size = w.heap.size + 1 := by simp
  go_enter Try.func56, Try.ntmps56
  go_upto_region 1 with fail
  generalize w.alloc (.cells #[.slice lad ln lc, .slice pad pn pc] 27) = wa at k1 t1 s1 ⊢
  have k2 := (Kept.refl wa.heap.size wa.heap.size wa).alloc (Nat.le_refl _) (.cells #[.slice none 0 0, .slice none 0 0] 27)
  have r2 := heap_new wa (.cells #[.slice none 0 0, .slice none 0 0] 27)
  have s2 : (wa.alloc (.cells #[.slice none 0 0, .slice none 0 0] 27)).heap.size = wa.heap.size + 1 := by simp
  have t2 := (k2.block _ (lt_of_block t1) (Nat.ne_of_lt (lt_of_block t1))).trans t1
  generalize wa.alloc (.cells #[.slice none 0 0, .slice none 0 0] 27) = w1 at k2 r2 s2 t2 ⊢
  have K1 := Lib.hid (k1.next1 k2)
  rw [s1] at r2 s2
  (try rw [s1])
  obtain ⟨tb, htb⟩ : ∃ tb, tb = w.heap.size := ⟨_, rfl⟩
  obtain ⟨rb, hrb⟩ : ∃ rb, rb = w.heap.size + 1 := ⟨_, rfl⟩
  rw [← hrb] at r2
  (try rw [← hrb])
  rw [← htb] at t2
  (try rw [← htb])
  have HTR := Lib.hid (show tb ≠ rb by omega)
  have HWT := Lib.hid (show ¬ tb < w.heap.size by omega)
  have HWR := Lib.hid (show ¬ rb < w.heap.size by omega)
  have HWS := Lib.hid (show w.heap.size ≤ w1.heap.size by omega)
  have T1 := Lib.hid t2
  have R1 := Lib.hid r2
  clear k1 t1 s1 k2 r2 s2 t2 htb hrb
  refine wp_region_lit ?_
  refine @wpList_load_known _ _ _ _ _ _ _ ?hw42001 27 (.tmp 2) rfl (tb) (0) rfl (.agg #[.slice lad ln lc, .slice pad pn pc]) (run_loadVar_row w1 tb 27 27 _ (0, 0) _ T1.out Try.underlying27 rfl treeInfo) ?_
  case hw42001 => kernel_rfl
  simp only [Act.put, List.setIfInBounds_toArray, List.set_cons_zero, List.set_cons_succ]
  refine @BigFrame.wpList_want _ _ _ _ _ _ _ ?hw42002 ?_
  case hw42002 => kernel_rfl
  intro K hK
  go_simp
  go_at_call 51
  refine (HCP.out _ K1.out).mono ?_
  rintro e w6 ⟨lv6, pv6, rfl, k6, SL6, m6⟩
  obtain ⟨lad6, lc6, rfl⟩ := m6.lvs.shape
  obtain ⟨pad6, pc6, rfl⟩ := m6.pts.shape
  rw [← HLN.out, ← HPN.out] at m6 ⊢
  have K6 := Lib.hid (K1.out.next1 k6)
  have T6 := Lib.hid ((k6.block tb (lt_of_block T1.out) (Nat.ne_of_lt (lt_of_block T1.out))).trans T1.out)
  have R6 := Lib.hid ((k6.block rb (lt_of_block R1.out) (Nat.ne_of_lt (lt_of_block R1.out))).trans R1.out)
  clear k6
  refine hK _ _ ?_
  clear hK K
  refine wpList_store_row rfl 27 _ _ rfl (tb) #[.slice lad6 ln lc6, .slice pad6 pn pc6] rfl rfl 27 #[.slice lad ln lc, .slice pad pn pc] T6.out treeInfo rfl (tree_all _ _ _ _ _ _) ?_
  simp only [Act.put]
  obtain ⟨sz, hsz⟩ : ∃ sz, sz = w1.heap.size := ⟨_, rfl⟩
  have HTB := Lib.hid (show tb < sz by rw [hsz]; exact lt_of_block T1.out)
  have HRB := Lib.hid (show rb < sz by rw [hsz]; exact lt_of_block R1.out)
  have HWZ := Lib.hid (show w.heap.size ≤ sz by rw [hsz]; exact HWS.out)
  rw [← hsz] at m6
  have t7 := setRow_heap w6 tb _ #[.slice lad6 ln lc6, .slice pad6 pn pc6] _ _ T6.out
  have g7 := grown_setRow w6 tb #[.slice lad6 ln lc6, .slice pad6 pn pc6]
  have m7 := m6.aside (b := tb) HTB.out g7
  have M7 : Hid (Mine (fun k => k < sz) (w6.setRow tb #[.slice lad6 ln lc6, .slice pad6 pn pc6]) (.slice lad6 ln lc6) (.slice pad6 pn pc6) L (Tt.holdsTo (ln : Int) x P 0) SL6) := Lib.hid m7
  have K7 := Lib.hid (K6.out.grown g7 K6.out.size (fun k e => by cases e; exact Nat.le_of_not_lt HWT.out))
  have R7 := Lib.hid ((g7.block rb (lt_of_block R6.out) (fun e => HTR.out (Option.some.inj e).symm)).trans R6.out)
  have T7 : Hid ((w6.setRow tb #[.slice lad6 ln lc6, .slice pad6 pn pc6]).heap[tb]? = some (.cells #[.slice lad6 ln lc6, .slice pad6 pn pc6] 27 (0, 0))) := t7
  generalize w6.setRow tb #[.slice lad6 ln lc6, .slice pad6 pn pc6] = w7 at M7 K7 R7 T7 ⊢
  clear m6 hsz t7 g7 m7 K6 T6 R6 K1 T1 R1 HCP HWS
  go_wp2
  go_loopw [5] (fun s5 wr => ∃ i : Nat, s5 = .int .i64 (i : Int) ∧ Hid (i ≤ pn) ∧ ∃ SL, Hid (Mine (fun k => k < sz) wr (.slice lad6 ln lc6) (.slice pad6 pn pc6) L (Tt.holdsTo (ln : Int) x P i) SL) ∧ Hid (Kept w.heap.size w.heap.size w wr) ∧ Hid (wr.heap[tb]? = some (.cells #[.slice lad6 ln lc6, .slice pad6 pn pc6] 27 (0, 0))) ∧ Hid (wr.heap[rb]? = some (.cells #[.slice none 0 0, .slice none 0 0] 27 (0, 0)))) (fun s5 _ => pn - (RowKit.intOf s5).toNat)
  case atStart => exact ⟨0, rfl, Lib.hid (Nat.zero_le _), _, M7, K7, T7, R7⟩
  case round =>
    clear M7 K7 T7 R7
    obtain ⟨i, rfl, hi, SL, HM, HK, HT, HR⟩ := hrel
    by_cases hlt : i < pn
    · have hlti : (i : Int) < (pn : Int) := by omega
      have hi0 : ¬ (i : Int) < 0 := by omega
      have hnx : Tt.holdsTo (ln : Int) x P (i + 1) = Tt.hold1 (ln : Int) x (Tt.holdsTo (ln : Int) x P i) i := rfl
      have hlen : (Tt.holdsTo (ln : Int) x P i).length = pn := by rw [Tt.holdsTo_length, HPN.out]
      have HW0 := Lib.hid (show IntKind.i64.wrap (2 * (i : Int)) = ((2 * i : Nat) : Int) by rw [wrap_small _ (by omega) (by omega)]; omega)
      have HW1 := Lib.hid (show IntKind.i64.wrap (((2 * i : Nat) : Int) + 1) = ((2 * i + 1 : Nat) : Int) by rw [wrap_small _ (by omega) (by omega)]; omega)
      obtain ⟨z, hz⟩ : ∃ z, z = ((2 * i : Nat) : Int) := ⟨_, rfl⟩
      obtain ⟨y, hy⟩ : ∃ y, y = ((2 * i + 1 : Nat) : Int) := ⟨_, rfl⟩
      obtain ⟨hd, hhd⟩ : ∃ hd, hd = Bo.Holds (ln : Int) ((2 * i + 1 : Nat) : Int) x := ⟨_, rfl⟩
      rw [Tt.hold1, ← hhd] at hnx
      have HRH := Lib.hid (fun u => rholds_calls (ln : Int) ((2 * i + 1 : Nat) : Int) x u)
      rw [← hhd] at HRH
      rw [← hy] at HRH HW1
      rw [← hz] at HW0 HW1
      have HNX := Lib.hid hnx
      have HLEN := Lib.hid hlen
      have HLT := Lib.hid hlt
      have t0 := two_cell0 HT.out
      have t1 := two_cell1 HT.out
      clear hi hlt hnx hlen hz hy hhd
      go_upto_region 5 with fail
      refine wp_region_lit ?_
      refine @BigFrame.wpList_want _ _ _ _ _ _ _ ?hw42003 ?_
      case hw42003 => kernel_rfl
      intro K hK
      go_simp
      refine hK _ _ ?_
      clear hK K
      refine @BigFrame.wpList_want _ _ _ _ _ _ _ ?hw42004 ?_
      case hw42004 => kernel_rfl
      intro K hK
      go_simp
      refine hK _ _ ?_
      clear hK K
      refine @BigFrame.wpList_want _ _ _ _ _ _ _ ?hw42005 ?_
      case hw42005 => kernel_rfl
      intro K hK
      go_simp
      refine hK _ _ ?_
      clear hK K
      refine @BigFrame.wpList_want _ _ _ _ _ _ _ ?hw42006 ?_
      case hw42006 => kernel_rfl
      intro K hK
      go_simp
      refine hK _ _ ?_
      clear hK K
      refine @BigFrame.wpList_want _ _ _ _ _ _ _ ?hw42007 ?_
      case hw42007 => kernel_rfl
      intro K hK
      go_simp
      refine hK _ _ ?_
      clear hK K
      rw [HW0.out]
      refine @BigFrame.wpList_want _ _ _ _ _ _ _ ?hw42008 ?_
      case hw42008 => kernel_rfl
      intro K hK
      go_simp
      refine hK _ _ ?_
      clear hK K
      rw [HW1.out]
      refine @BigFrame.wpList_want _ _ _ _ _ _ _ ?hw42009 ?_
      case hw42009 => kernel_rfl
      intro K hK
      go_simp
      refine hK _ _ ?_
      clear hK K
      refine @BigFrame.wpList_want _ _ _ _ _ _ _ ?hw42010 ?_
      case hw42010 => kernel_rfl
      intro K hK
      go_simp
      go_at_call 13
      refine (HRH.out _).mono ?_
      rintro e wq ⟨rfl, hwq⟩
      subst wq
      refine hK _ _ ?_
      clear hK K
      cases hd with
      | true =>
        obtain ⟨g, cap, hpv, hgb, hth, hm2, hg2⟩ := HM.out.blank i (by rw [HLEN.out]; exact HLT.out)
        rw [HLEN.out] at hpv
        injection hpv with hpa hpx hpc
        subst hpa; subst hpc
        clear hpx
        have M3 := Lib.hid hm2
        have K3 := Lib.hid (HK.out.grown hg2 HK.out.size (fun k2 e => by cases e; have := HWZ.out; exact Nat.le_of_not_lt (fun h => hgb (by omega))))
        have T3 := Lib.hid ((hg2.block tb (lt_of_block HT.out) (fun e => hgb (by rw [← Option.some.inj e]; exact HTB.out))).trans HT.out)
        have R3 := Lib.hid ((hg2.block rb (lt_of_block HR.out) (fun e => hgb (by rw [← Option.some.inj e]; exact HRB.out))).trans HR.out)
        have HTH := Lib.hid hth
        clear hgb hth hm2 hg2 HM HK
        go_upto_region 6 with fail
        refine wp_region_lit ?_
        refine @BigFrame.wpList_want _ _ _ _ _ _ _ ?hw42011 ?_
        case hw42011 => kernel_rfl
        intro K hK
        go_simp
        refine hK _ _ ?_
        clear hK K
        refine @BigFrame.wpList_want _ _ _ _ _ _ _ ?hw42012 ?_
        case hw42012 => kernel_rfl
        intro K hK
        go_simp
        refine hK _ _ ?_
        clear hK K
        refine @BigFrame.wpList_want _ _ _ _ _ _ _ ?hw42013 ?_
        case hw42013 => kernel_rfl
        intro K hK
        go_simp
        refine hK _ _ ?_
        clear hK K
        refine @wpL_build0 _ _ _ _ _ _ _ ?hw42014 70 rfl _ (build_parent0 _) ?_
        case hw42014 => kernel_rfl
        simp only [Act.put, List.setIfInBounds_toArray, List.set_cons_zero, List.set_cons_succ]
        refine @BigFrame.wpList_want _ _ _ _ _ _ _ ?hw42015 ?_
        case hw42015 => kernel_rfl
        intro K hK
        go_simp
        refine hK _ _ ?_
        clear hK K
        refine @wpL_store_mid _ _ _ _ _ _ _ ?hwb6 70 _ _ rfl (g) (i * 66) (Pr.zero.cells (.slice none 0 0)).toArray rfl rfl (by rw [Pr.size Pr.zero_ok]; exact HTH.out) (parentInfo (Pr.size Pr.zero_ok _)) (Pr.all _ _ _ _) ?_
        case hwb6 => kernel_rfl
        simp only [Act.put]
        generalize wr.setCells g (i * 66) (Pr.zero.cells (.slice none 0 0)).toArray.toList = w5 at *
        go_wp2
        go_roundw
        case rel => exact ⟨i + 1, by simp, Lib.hid HLT.out, _, by rw [HNX.out, if_pos rfl]; exact M3, K3, T3, R3⟩
        case measure => have := HLT.out; simp [RowKit.intOf]; omega
      | false =>
        go_wp2
        go_roundw
        case rel => exact ⟨i + 1, by simp, Lib.hid HLT.out, _, by rw [HNX.out, if_neg (by decide)]; exact HM, HK, HT, HR⟩
        case measure => have := HLT.out; simp [RowKit.intOf]; omega
    · have hnl : ¬ (i : Int) < (pn : Int) := by omega
      have HE := Lib.hid (show i = pn by have := hi.out; omega)
      have t1 := two_cell1 HT.out
      clear hlt hi
      go_upto_region 7 with fail
      clear t1
      refine wp_region_lit ?_
      refine @wpList_load_known _ _ _ _ _ _ _ ?hw42016 27 (.tmp 2) rfl (tb) (0) rfl (.agg #[.slice lad6 ln lc6, .slice pad6 pn pc6]) (run_loadVar_row wr tb 27 27 _ (0, 0) _ HT.out Try.underlying27 rfl treeInfo) ?_
      case hw42016 => kernel_rfl
      simp only [Act.put, List.setIfInBounds_toArray, List.set_cons_zero, List.set_cons_succ]
      refine wpList_store_row rfl 27 _ _ rfl (rb) #[.slice lad6 ln lc6, .slice pad6 pn pc6] rfl rfl 27 #[.slice none 0 0, .slice none 0 0] HR.out treeInfo rfl (tree_all _ _ _ _ _ _) ?_
      simp only [Act.put]
      have R9 := setRow_heap wr rb _ #[.slice lad6 ln lc6, .slice pad6 pn pc6] _ _ HR.out
      have g9 := grown_setRow wr rb #[.slice lad6 ln lc6, .slice pad6 pn pc6]
      have M9 := Lib.hid (HM.out.aside (b := rb) HRB.out g9)
      have K9 := Lib.hid (HK.out.grown g9 HK.out.size (fun k e => by cases e; exact Nat.le_of_not_lt HWR.out))
      generalize wr.setRow rb #[.slice lad6 ln lc6, .slice pad6 pn pc6] = w9 at R9 g9 M9 K9 ⊢
      go_wp2
      refine bodyPost_ret (results_cell_row rfl _ _ rb 27 _ (0, 0) _ rfl R9 Try.underlying27 rfl treeInfo) rfl ?_
      refine ⟨_, _, rfl, K9.out, SL, ?_⟩
      have hm := M9.out
      rw [HE.out] at hm
      exact hm.mono (fun k b => Nat.lt_of_lt_of_le b HWZ.out)

end Go.Proofs.Ytmmgekchfgmcdaa

namespace Go.Proofs.Ytmmgekchfgmcdaa
open Go.RowKit Go.Lib

set_option maxRecDepth 100000 in
set_option maxHeartbeats 6400000 in
theorem refrenew_ok (lv pv : Value) (L : List Lf) (P : List Pr) (k : Nat) (pub : List UInt8) (hpub : pub.length = 32) (w : World) (hL : Lvs w lv L) (hP : Pts w pv P) (hn : L.length ≤ 1000) (hp : P.length ≤ 1000) (hpl : ∀ p ∈ P, p.loose.length ≤ 1000) (hn64 : L.length ≤ 64) (hk : k < L.length) (hpe : P.length = L.length - 1) (hno : Tt.none L (k : Int) = false) :
    Calls Try.prog 21 #[.agg #[lv, pv], .int .i64 (k : Int), .agg (bcells pub).toArray] w fun e w' => ∃ lv' pv', e = .returned (.tuple #[.agg #[lv', pv'], .int .i64 0]) ∧ Kept w.heap.size w.heap.size w w' ∧ ∃ SL, Mine (fun k => k < w.heap.size) w' lv' pv' (L.set k (Tt.renewed L[k] pub)) (Tt.blanks (Bo.Direct L.length (k : Int)) P) SL := by
  have HLK := Lib.hid (fun (u : World) (kk : Kept w.heap.size w.heap.size w u) => refnone_calls lv pv L (k : Int) u (hL.kept kk) hn (by obtain ⟨pad, pc, rfl⟩ := hP.shape; exact ⟨_, _, _, rfl⟩))
  rw [hno] at HLK
  have HBK := Lib.hid (fun (u : World) (kk : Kept w.heap.size w.heap.size w u) => refblank_calls lv pv L P (k : Int) u (hL.kept kk) (hP.kept kk) hn hp hpl)
  rw [Tt.holds_blanks hn64 hk hpe] at HBK
  obtain ⟨P1, hP1⟩ : ∃ P1, P1 = Tt.blanks (Bo.Direct (L.length : Int) (k : Int)) P := ⟨_, rfl⟩
  have hpn1 : P1.length = P.length := by rw [hP1, Tt.blanks_length]
  rw [← hP1] at HBK
  have HP1 := Lib.hid hP1
  have HPN1 := Lib.hid hpn1
  have HPE := Lib.hid hpe
  have HKL := Lib.hid hk
  have hlok : L[k].Ok := by
    obtain ⟨_, _, _, _, _, h1, _⟩ := hL
    exact (h1 k hk).2.2.1
  obtain ⟨l, hl⟩ : ∃ l, l = L[k] := ⟨_, rfl⟩
  rw [← hl] at hlok
  have HL := Lib.hid (show ∀ h : k < L.length, l = L[k] from fun _ => hl)
  have HOK := Lib.hid hlok
  obtain ⟨lad, lc, rfl⟩ := hL.shape
  obtain ⟨pad, pc, rfl⟩ := hP.shape
  obtain ⟨ln, hln⟩ : ∃ ln, ln = L.length := ⟨_, rfl⟩
  obtain ⟨pn, hpn⟩ : ∃ pn, pn = P.length := ⟨_, rfl⟩
  have hkl : (k : Int) < (ln : Int) := by omega
  have hk0 : ¬ (k : Int) < 0 := by omega
  rw [← hln, ← hpn] at HLK
  (try rw [← hln] at HBK)
  (try rw [← hpn] at HBK)
  rw [← hln] at HP1
  rw [← hln, ← hpn]
  clear hno hn64 hpe hP1 hpn1 hlok hl
  have hln9 : (ln : Int) ≤ 1000 := by omega
  have HLN := Lib.hid hln
  have HPN := Lib.hid hpn
  have HPB := Lib.hid hpub
  obtain ⟨D, hD⟩ : ∃ D, D = (bcells pub).toArray := ⟨_, rfl⟩
  have HDE := Lib.hid hD
  have hsz : D.size = 32 := by rw [hD, List.size_toArray, bcells_length, hpub]
  have HSZ := Lib.hid hsz
  have hinf : (Try.prog.info? 34).map (·.size) = some D.size := by rw [hD]; exact hashInfoT (by rw [bcells_length, hpub])
  have HINF := Lib.hid hinf
  have HALL := Lib.hid (show D.all (·.oneCell') = true by rw [hD]; exact bytesAll pub)
  rw [← hD]
  clear hpub hD hsz hinf
  clear hL hP hn hp hpl hln hpn
  have k1 := (Kept.refl w.heap.size w.heap.size w).alloc (Nat.le_refl _) (.cells #[.slice lad ln lc, .slice pad pn pc] 27)
  have t1 := heap_new w (.cells #[.slice lad ln lc, .slice pad pn pc] 27)
  have s1 : (w.alloc (.cells #[.slice lad ln lc, .slice pad pn pc] 27)).heap.size = w.heap.size + 1 := by simp
  go_enter Try.func21, Try.ntmps21
  go_upto_region 1 with fail
  generalize w.alloc (.cells #[.slice lad ln lc, .slice pad pn pc] 27) = wa at k1 t1 s1 ⊢
  have k2 := (Kept.refl wa.heap.size wa.heap.size wa).alloc (Nat.le_refl _) (.cells D 34)
  have e2 := heap_new wa (.cells D 34)
  have s2 : (wa.alloc (.cells D 34)).heap.size = wa.heap.size + 1 := by simp
  have t2 := (k2.block _ (lt_of_block t1) (Nat.ne_of_lt (lt_of_block t1))).trans t1
  generalize wa.alloc (.cells D 34) = wb at k2 e2 s2 t2 ⊢
  have k3 := (Kept.refl wb.heap.size wb.heap.size wb).alloc (Nat.le_refl _) (.cells #[.slice none 0 0, .slice none 0 0] 27)
  have r3 := heap_new wb (.cells #[.slice none 0 0, .slice none 0 0] 27)
  have s3 : (wb.alloc (.cells #[.slice none 0 0, .slice none 0 0] 27)).heap.size = wb.heap.size + 1 := by simp
  have t3 := (k3.block _ (lt_of_block t2) (Nat.ne_of_lt (lt_of_block t2))).trans t2
  have e3 := (k3.block _ (lt_of_block e2) (Nat.ne_of_lt (lt_of_block e2))).trans e2
  generalize wb.alloc (.cells #[.slice none 0 0, .slice none 0 0] 27) = w1 at k3 r3 s3 t3 e3 ⊢
  have K1 := Lib.hid ((k1.next1 k2).next1 k3)
  rw [s2, s1] at r3 s3
  rw [s1] at e3
  (try rw [s2])
  (try rw [s1])
  obtain ⟨tb, htb⟩ : ∃ tb, tb = w.heap.size := ⟨_, rfl⟩
  obtain ⟨lb, hlb⟩ : ∃ lb, lb = w.heap.size + 1 := ⟨_, rfl⟩
  obtain ⟨rb, hrb⟩ : ∃ rb, rb = w.heap.size + 1 + 1 := ⟨_, rfl⟩
  rw [← hrb] at r3
  (try rw [← hrb])
  rw [← hlb] at e3
  (try rw [← hlb])
  rw [← htb] at t3
  (try rw [← htb])
  have HTL := Lib.hid (show tb ≠ lb by omega)
  have HTR := Lib.hid (show tb ≠ rb by omega)
  have HTB := Lib.hid (show ¬ tb < w.heap.size by omega)
  have HRB := Lib.hid (show ¬ rb < w.heap.size by omega)
  have HWS := Lib.hid (show w.heap.size ≤ w1.heap.size by omega)
  have T1 := Lib.hid t3
  have R1 := Lib.hid r3
  have E1 := Lib.hid e3
  clear k1 t1 s1 k2 e2 s2 t2 k3 r3 s3 t3 e3 htb hlb hrb
  refine wp_region_lit ?_
  refine @wpList_load_known _ _ _ _ _ _ _ ?hw43030 27 (.tmp 3) rfl (tb) (0) rfl (.agg #[.slice lad ln lc, .slice pad pn pc]) (run_loadVar_row w1 tb 27 27 _ (0, 0) _ T1.out Try.underlying27 rfl treeInfo) ?_
  case hw43030 => kernel_rfl
  simp only [Act.put, List.setIfInBounds_toArray, List.set_cons_zero, List.set_cons_succ]
  refine @BigFrame.wpList_want _ _ _ _ _ _ _ ?hw43031 ?_
  case hw43031 => kernel_rfl
  intro K hK
  go_simp
  refine hK _ _ ?_
  clear hK K
  refine @BigFrame.wpList_want _ _ _ _ _ _ _ ?hw43029 ?_
  case hw43029 => kernel_rfl
  intro K hK
  go_simp
  go_at_call 55
  refine (HLK.out _ K1.out).mono ?_
  rintro e w2 ⟨rfl, k2⟩
  have K2 := Lib.hid (K1.out.next1 k2)
  have T2 := Lib.hid ((k2.block tb (lt_of_block T1.out) (Nat.ne_of_lt (lt_of_block T1.out))).trans T1.out)
  have R2 := Lib.hid ((k2.block rb (lt_of_block R1.out) (Nat.ne_of_lt (lt_of_block R1.out))).trans R1.out)
  have E2 := Lib.hid ((k2.block lb (lt_of_block E1.out) (Nat.ne_of_lt (lt_of_block E1.out))).trans E1.out)
  clear k2
  refine hK _ _ ?_
  clear hK K
  go_upto_region 3 with fail
  refine wp_region_lit ?_
  refine @wpList_load_known _ _ _ _ _ _ _ ?hw43032 27 (.tmp 3) rfl (tb) (0) rfl (.agg #[.slice lad ln lc, .slice pad pn pc]) (run_loadVar_row w2 tb 27 27 _ (0, 0) _ T2.out Try.underlying27 rfl treeInfo) ?_
  case hw43032 => kernel_rfl
  simp only [Act.put, List.setIfInBounds_toArray, List.set_cons_zero, List.set_cons_succ]
  refine @BigFrame.wpList_want _ _ _ _ _ _ _ ?hw43033 ?_
  case hw43033 => kernel_rfl
  intro K hK
  go_simp
  refine hK _ _ ?_
  clear hK K
  refine @BigFrame.wpList_want _ _ _ _ _ _ _ ?hw43034 ?_
  case hw43034 => kernel_rfl
  intro K hK
  go_simp
  go_at_call 56
  refine (HBK.out _ K2.out).mono ?_
  rintro e w6 ⟨lv6, pv6, rfl, k6, SL6, m6⟩
  obtain ⟨lad6, lc6, rfl⟩ := m6.lvs.shape
  obtain ⟨pad6, pc6, rfl⟩ := m6.pts.shape
  rw [HPN1.out] at m6 ⊢
  rw [← HLN.out, ← HPN.out] at m6 ⊢
  have K6 := Lib.hid (K2.out.next1 k6)
  have T6 := Lib.hid ((k6.block tb (lt_of_block T2.out) (Nat.ne_of_lt (lt_of_block T2.out))).trans T2.out)
  have R6 := Lib.hid ((k6.block rb (lt_of_block R2.out) (Nat.ne_of_lt (lt_of_block R2.out))).trans R2.out)
  have E6 := Lib.hid ((k6.block lb (lt_of_block E2.out) (Nat.ne_of_lt (lt_of_block E2.out))).trans E2.out)
  clear k6
  refine hK _ _ ?_
  clear hK K
  refine wpList_store_row rfl 27 _ _ rfl (tb) #[.slice lad6 ln lc6, .slice pad6 pn pc6] rfl rfl 27 #[.slice lad ln lc, .slice pad pn pc] T6.out treeInfo rfl (tree_all _ _ _ _ _ _) ?_
  simp only [Act.put]
  obtain ⟨sz, hsz⟩ : ∃ sz, sz = w2.heap.size := ⟨_, rfl⟩
  have HTZ := Lib.hid (show tb < sz by rw [hsz]; exact lt_of_block T2.out)
  have HRZ := Lib.hid (show rb < sz by rw [hsz]; exact lt_of_block R2.out)
  have HWZ := Lib.hid (show w.heap.size ≤ sz by rw [hsz]; exact K2.out.size)
  rw [← hsz] at m6
  have t7 := setRow_heap w6 tb _ #[.slice lad6 ln lc6, .slice pad6 pn pc6] _ _ T6.out
  have g7 := grown_setRow w6 tb #[.slice lad6 ln lc6, .slice pad6 pn pc6]
  have m7 := m6.aside (b := tb) HTZ.out g7
  have F7 := Lib.hid ((K6.out.fr (B := fun k => k < w.heap.size)).trans (grown_fr (B := fun k => k < w.heap.size) g7 (fun k e b => by cases e; exact HTB.out b)))
  have R7 := Lib.hid ((g7.block rb (lt_of_block R6.out) (fun e => HTR.out (Option.some.inj e).symm)).trans R6.out)
  have HLZ := Lib.hid (show lb < sz by rw [hsz]; exact lt_of_block E2.out)
  have E7 := Lib.hid ((g7.block lb (lt_of_block E6.out) (fun e => HTL.out (Option.some.inj e).symm)).trans E6.out)
  generalize w6.setRow tb #[.slice lad6 ln lc6, .slice pad6 pn pc6] = w7 at t7 m7 F7 R7 E7 ⊢
  clear m6 hsz g7 K6 T6 R6 E6
  obtain ⟨g8, cap8, he8, hgb8, hth8, hm8, hg8⟩ := m7.leafPart k HKL.out (.mk l.name pub l.ver l.abv) ⟨HPB.out, HOK.out.2.1, HOK.out.2.2⟩ 1 (bcells pub) (by rw [bcells_length, HPB.out]; decide) (bcells_one pub) (by rw [← HL.out HKL.out]; exact Lf.put_pub HOK.out pub HPB.out)
  rw [← HLN.out] at he8
  injection he8 with hea hez hec
  subst hea
  clear hez hec
  obtain ⟨g9, cap9, he9, hgb9, hth9, hm9, hg9⟩ := hm8.leafPart k (by rw [List.length_set]; exact HKL.out) (Tt.renewed l pub) ⟨HPB.out, HOK.out.2.1, rfl⟩ 65 (bcells Tt.z32) (by decide) (bcells_one _) (by rw [List.getElem_set_self]; exact Lf.put_abv (l := .mk l.name pub l.ver l.abv) ⟨HPB.out, HOK.out.2.1, HOK.out.2.2⟩ Tt.z32 rfl)
  rw [List.set_set] at hm9
  injection he9 with hea hez hec
  injection hea with hea
  injection hea with hea heo hes
  subst hea
  clear hez hec
  rw [bcells_length, HPB.out] at hth8
  have HTH8 := Lib.hid hth8
  have HTH9 := Lib.hid (show (w7.setCells g8 (k * 97 + 1) (bcells pub)).there g8 (k * 97 + 65) 32 from hth9)
  have hne : ∀ b, b < sz → some b ≠ some g8 := fun b hb e => hgb8 (by rw [← Option.some.inj e]; exact hb)
  have hb8 := (hg8.block tb (lt_of_block t7) (hne tb HTZ.out)).trans t7
  have hr8 := (hg8.block rb (lt_of_block R7.out) (hne rb HRZ.out)).trans R7.out
  have hf8 := F7.out.trans (grown_fr (B := fun k => k < w.heap.size) hg8 (fun k e b => by cases e; exact hgb8 (Nat.lt_of_lt_of_le b HWZ.out)))
  have hb9 := (hg9.block tb (lt_of_block hb8) (hne tb HTZ.out)).trans hb8
  have hr9 := (hg9.block rb (lt_of_block hr8) (hne rb HRZ.out)).trans hr8
  have hf9 := hf8.trans (grown_fr (B := fun k => k < w.heap.size) hg9 (fun k e b => by cases e; exact hgb8 (Nat.lt_of_lt_of_le b HWZ.out)))
  have hdl : bcells pub = D.toList := by rw [HDE.out]
  rw [hdl] at hm9 hb8 hb9 hr9 hf9 HTH9
  have B7 := Lib.hid t7
  have B8 := Lib.hid hb8
  have M9 := Lib.hid hm9
  have B9 := Lib.hid hb9
  have R9 := Lib.hid hr9
  have F9 := Lib.hid hf9
  have HLH := Lib.hid (run_loadVar_row w7 lb 34 34 _ (0, 0) _ E7.out Try.underlying34 rfl HINF.out)
  clear m7 t7 hgb8 hth8 hm8 hg8 hb8 hr8 hf8 hgb9 hth9 hm9 hg9 hb9 hr9 hf9 hdl heo hes hne
  have t0 := two_cell0 B7.out
  go_upto_region 4 with fail
  refine wp_region_lit ?_
  refine @BigFrame.wpList_want _ _ _ _ _ _ _ ?hw43035 ?_
  case hw43035 => kernel_rfl
  intro K hK
  go_simp
  refine hK _ _ ?_
  clear hK K
  refine @BigFrame.wpList_want _ _ _ _ _ _ _ ?hw43036 ?_
  case hw43036 => kernel_rfl
  intro K hK
  go_simp
  refine hK _ _ ?_
  clear hK K
  refine @BigFrame.wpList_want _ _ _ _ _ _ _ ?hw43037 ?_
  case hw43037 => kernel_rfl
  intro K hK
  go_simp
  refine hK _ _ ?_
  clear hK K
  refine @wpList_load_known _ _ _ _ _ _ _ ?hw43038 34 (.tmp 5) rfl (lb) (0) rfl (.agg D) (HLH.out) ?_
  case hw43038 => kernel_rfl
  simp only [Act.put, List.setIfInBounds_toArray, List.set_cons_zero, List.set_cons_succ]
  refine @BigFrame.wpList_want _ _ _ _ _ _ _ ?hw43039 ?_
  case hw43039 => kernel_rfl
  intro K hK
  go_simp
  refine hK _ _ ?_
  clear hK K
  refine @BigFrame.wpList_want _ _ _ _ _ _ _ ?hw43040 ?_
  case hw43040 => kernel_rfl
  intro K hK
  go_simp
  refine hK _ _ ?_
  clear hK K
  refine @wpL_store_mid _ _ _ _ _ _ _ ?hwr32 34 _ _ rfl (g8) (k * 97 + 1) D rfl rfl (by rw [HSZ.out]; exact HTH8.out) HINF.out HALL.out ?_
  case hwr32 => kernel_rfl
  simp only [Act.put]
  generalize w7.setCells g8 (k * 97 + 1) D.toList = w8 at B8 M9 B9 R9 F9 HTH9 ⊢
  clear t0 HTH8 HLH
  have t0 := two_cell0 B8.out
  go_upto_region 5 with fail
  refine wp_region_lit ?_
  refine @BigFrame.wpList_want _ _ _ _ _ _ _ ?hw43041 ?_
  case hw43041 => kernel_rfl
  intro K hK
  go_simp
  refine hK _ _ ?_
  clear hK K
  refine @BigFrame.wpList_want _ _ _ _ _ _ _ ?hw43042 ?_
  case hw43042 => kernel_rfl
  intro K hK
  go_simp
  refine hK _ _ ?_
  clear hK K
  refine @BigFrame.wpList_want _ _ _ _ _ _ _ ?hw43043 ?_
  case hw43043 => kernel_rfl
  intro K hK
  go_simp
  refine hK _ _ ?_
  clear hK K
  refine @wpL_build0 _ _ _ _ _ _ _ ?hw43044 34 rfl _ (build_zh2 _) ?_
  case hw43044 => kernel_rfl
  simp only [Act.put, List.setIfInBounds_toArray, List.set_cons_zero, List.set_cons_succ]
  refine @BigFrame.wpList_want _ _ _ _ _ _ _ ?hw43045 ?_
  case hw43045 => kernel_rfl
  intro K hK
  go_simp
  refine hK _ _ ?_
  clear hK K
  refine @BigFrame.wpList_want _ _ _ _ _ _ _ ?hw43046 ?_
  case hw43046 => kernel_rfl
  intro K hK
  go_simp
  refine hK _ _ ?_
  clear hK K
  refine @wpL_store_mid _ _ _ _ _ _ _ ?hwr33 34 _ _ rfl (g8) (k * 97 + 65) (bcells Tt.z32).toArray rfl rfl (by exact HTH9.out) (hashInfoT rfl) (bytesAll _) ?_
  case hwr33 => kernel_rfl
  simp only [Act.put]
  generalize w8.setCells g8 (k * 97 + 65) (bcells Tt.z32) = w9 at M9 B9 R9 F9 ⊢
  clear t0 HTH9
  go_upto_region 6 with fail
  refine wp_region_lit ?_
  refine @wpList_load_known _ _ _ _ _ _ _ ?hw43047 27 (.tmp 3) rfl (tb) (0) rfl (.agg #[.slice (some ⟨g8, 0, none⟩) ln lc6, .slice pad6 pn pc6]) (run_loadVar_row w9 tb 27 27 _ (0, 0) _ B9.out Try.underlying27 rfl treeInfo) ?_
  case hw43047 => kernel_rfl
  simp only [Act.put, List.setIfInBounds_toArray, List.set_cons_zero, List.set_cons_succ]
  refine wpList_store_row rfl 27 _ _ rfl (rb) #[.slice (some ⟨g8, 0, none⟩) ln lc6, .slice pad6 pn pc6] rfl rfl 27 #[.slice none 0 0, .slice none 0 0] R9.out treeInfo rfl (tree_all _ _ _ _ _ _) ?_
  simp only [Act.put]
  refine @BigFrame.wpList_want _ _ _ _ _ _ _ ?hw43048 ?_
  case hw43048 => kernel_rfl
  intro K hK
  go_simp
  refine hK _ _ ?_
  clear hK K
  have R12 := setRow_heap w9 rb _ #[.slice (some ⟨g8, 0, none⟩) ln lc6, .slice pad6 pn pc6] _ _ R9.out
  have g12 := grown_setRow w9 rb #[.slice (some ⟨g8, 0, none⟩) ln lc6, .slice pad6 pn pc6]
  have M12 := Lib.hid (M9.out.aside (b := rb) HRZ.out g12)
  have F12 := Lib.hid ((F9.out.trans (grown_fr (B := fun k => k < w.heap.size) g12 (fun k e b => by cases e; exact HRB.out b))).kept (fun k hk => hk))
  generalize w9.setRow rb #[.slice (some ⟨g8, 0, none⟩) ln lc6, .slice pad6 pn pc6] = wz at R12 g12 M12 F12 ⊢
  go_wp2
  refine bodyPost_ret (results_row2 rfl _ _ rb 27 _ (0, 0) _ rfl R12 Try.underlying27 rfl treeInfo) rfl ?_
  have hm := M12.out
  rw [HP1.out, HL.out HKL.out] at hm
  exact ⟨_, _, rfl, F12.out, SL6, hm.mono (fun _ b => Nat.lt_of_lt_of_le b HWZ.out)⟩

end Go.Proofs.Ytmmgekchfgmcdaa

namespace Go.Proofs.Ytmmgekchfgmcdaa
open Go.RowKit Go.Lib

/-- The length of the first slice of a row. -/
def lenAt (w : World) (b : Nat) : Nat :=
  match w.heap[b]? with
  | some (Obj.cells cs _ _) => (match cs[0]? with | some (Value.slice _ n _) => n | _ => 0)
  | _ => 0
theorem lenAt_row {w : World} {b n c : Nat} {ad : Option Addr} {v : Value} {t : TypeId} {fr : Nat × Nat} (h : w.heap[b]? = some (.cells #[.slice ad n c, v] t fr)) : lenAt w b = n := by
  unfold lenAt
  rw [h]
  rfl
set_option maxRecDepth 100000 in
set_option maxHeartbeats 6400000 in
theorem refremove_ok (lv pv : Value) (L : List Lf) (P : List Pr) (k : Nat) (w : World) (hL : Lvs w lv L) (hP : Pts w pv P) (hn : L.length ≤ 1000) (hp : P.length ≤ 1000) (hpl : ∀ p ∈ P, p.loose.length ≤ 1000) (hn64 : L.length ≤ 64) (hk : k < L.length) (hpe : P.length = L.length - 1) (hno : Tt.none L (k : Int) = false) :
    Calls Try.prog 23 #[.agg #[lv, pv], .int .i64 (k : Int)] w fun e w' => ∃ lv' pv', e = .returned (.tuple #[.agg #[lv', pv'], .int .i64 0]) ∧ Kept w.heap.size w.heap.size w w' ∧ ∃ SL, Mine (fun k => k < w.heap.size) w' lv' pv' (Tt.remL L k) (Tt.remP L P k) SL := by
  have HLK := Lib.hid (fun (u : World) (kk : Kept w.heap.size w.heap.size w u) => refnone_calls lv pv L (k : Int) u (hL.kept kk) hn (by obtain ⟨pad, pc, rfl⟩ := hP.shape; exact ⟨_, _, _, rfl⟩))
  rw [hno] at HLK
  have HBK := Lib.hid (fun (u : World) (kk : Kept w.heap.size w.heap.size w u) => refblank_calls lv pv L P (k : Int) u (hL.kept kk) (hP.kept kk) hn hp hpl)
  rw [Tt.holds_blanks hn64 hk hpe] at HBK
  obtain ⟨P1, hP1⟩ : ∃ P1, P1 = Tt.blanks (Bo.Direct (L.length : Int) (k : Int)) P := ⟨_, rfl⟩
  have hpn1 : P1.length = P.length := by rw [hP1, Tt.blanks_length]
  rw [← hP1] at HBK
  have HP1 := Lib.hid hP1
  have HPN1 := Lib.hid hpn1
  have HPE := Lib.hid hpe
  have HKL := Lib.hid hk
  have hlok : L[k].Ok := by
    obtain ⟨_, _, _, _, _, h1, _⟩ := hL
    exact (h1 k hk).2.2.1
  obtain ⟨l, hl⟩ : ∃ l, l = L[k] := ⟨_, rfl⟩
  rw [← hl] at hlok
  have HL := Lib.hid (show ∀ h : k < L.length, l = L[k] from fun _ => hl)
  have HOK := Lib.hid hlok
  obtain ⟨lad, lc, rfl⟩ := hL.shape
  obtain ⟨pad, pc, rfl⟩ := hP.shape
  obtain ⟨ln, hln⟩ : ∃ ln, ln = L.length := ⟨_, rfl⟩
  obtain ⟨pn, hpn⟩ : ∃ pn, pn = P.length := ⟨_, rfl⟩
  have hkl : (k : Int) < (ln : Int) := by omega
  have hk0 : ¬ (k : Int) < 0 := by omega
  rw [← hln, ← hpn] at HLK
  (try rw [← hln] at HBK)
  (try rw [← hpn] at HBK)
  rw [← hln] at HP1
  rw [← hln, ← hpn]
  clear hno hn64 hpe hP1 hpn1 hlok hl
  have hln9 : (ln : Int) ≤ 1000 := by omega
  have HLN := Lib.hid hln
  have HPN := Lib.hid hpn
  clear hL hP hn hp hpl hln hpn
  have k1 := (Kept.refl w.heap.size w.heap.size w).alloc (Nat.le_refl _) (.cells #[.slice lad ln lc, .slice pad pn pc] 27)
  have t1 := heap_new w (.cells #[.slice lad ln lc, .slice pad pn pc] 27)
  have s1 : (w.alloc (.cells #[.slice lad ln lc, .slice pad pn pc] 27)).heap.size = w.heap.size + 1 := by simp
  go_enter Try.func23, Try.ntmps23
  go_upto_region 1 with fail
  generalize w.alloc (.cells #[.slice lad ln lc, .slice pad pn pc] 27) = wa at k1 t1 s1 ⊢
  have k3 := (Kept.refl wa.heap.size wa.heap.size wa).alloc (Nat.le_refl _) (.cells #[.slice none 0 0, .slice none 0 0] 27)
  have r3 := heap_new wa (.cells #[.slice none 0 0, .slice none 0 0] 27)
  have s3 : (wa.alloc (.cells #[.slice none 0 0, .slice none 0 0] 27)).heap.size = wa.heap.size + 1 := by simp
  have t3 := (k3.block _ (lt_of_block t1) (Nat.ne_of_lt (lt_of_block t1))).trans t1
  generalize wa.alloc (.cells #[.slice none 0 0, .slice none 0 0] 27) = w1 at k3 r3 s3 t3 ⊢
  have K1 := Lib.hid (k1.next1 k3)
  rw [s1] at r3 s3
  (try rw [s1])
  obtain ⟨tb, htb⟩ : ∃ tb, tb = w.heap.size := ⟨_, rfl⟩
  obtain ⟨rb, hrb⟩ : ∃ rb, rb = w.heap.size + 1 := ⟨_, rfl⟩
  rw [← hrb] at r3
  (try rw [← hrb])
  rw [← htb] at t3
  (try rw [← htb])
  have HTR := Lib.hid (show tb ≠ rb by omega)
  have HTB := Lib.hid (show ¬ tb < w.heap.size by omega)
  have HRB := Lib.hid (show ¬ rb < w.heap.size by omega)
  have HWS := Lib.hid (show w.heap.size ≤ w1.heap.size by omega)
  have T1 := Lib.hid t3
  have R1 := Lib.hid r3
  clear k1 t1 s1 k3 r3 s3 t3 htb hrb
  refine wp_region_lit ?_
  refine @wpList_load_known _ _ _ _ _ _ _ ?hw43050 27 (.tmp 2) rfl (tb) (0) rfl (.agg #[.slice lad ln lc, .slice pad pn pc]) (run_loadVar_row w1 tb 27 27 _ (0, 0) _ T1.out Try.underlying27 rfl treeInfo) ?_
  case hw43050 => kernel_rfl
  simp only [Act.put, List.setIfInBounds_toArray, List.set_cons_zero, List.set_cons_succ]
  refine @BigFrame.wpList_want _ _ _ _ _ _ _ ?hw43051 ?_
  case hw43051 => kernel_rfl
  intro K hK
  go_simp
  refine hK _ _ ?_
  clear hK K
  refine @BigFrame.wpList_want _ _ _ _ _ _ _ ?hw43049 ?_
  case hw43049 => kernel_rfl
  intro K hK
  go_simp
  go_at_call 55
  refine (HLK.out _ K1.out).mono ?_
  rintro e w2 ⟨rfl, k2⟩
  have K2 := Lib.hid (K1.out.next1 k2)
  have T2 := Lib.hid ((k2.block tb (lt_of_block T1.out) (Nat.ne_of_lt (lt_of_block T1.out))).trans T1.out)
  have R2 := Lib.hid ((k2.block rb (lt_of_block R1.out) (Nat.ne_of_lt (lt_of_block R1.out))).trans R1.out)
  clear k2
  refine hK _ _ ?_
  clear hK K
  go_upto_region 3 with fail
  refine wp_region_lit ?_
  refine @wpList_load_known _ _ _ _ _ _ _ ?hw43052 27 (.tmp 2) rfl (tb) (0) rfl (.agg #[.slice lad ln lc, .slice pad pn pc]) (run_loadVar_row w2 tb 27 27 _ (0, 0) _ T2.out Try.underlying27 rfl treeInfo) ?_
  case hw43052 => kernel_rfl
  simp only [Act.put, List.setIfInBounds_toArray, List.set_cons_zero, List.set_cons_succ]
  refine @BigFrame.wpList_want _ _ _ _ _ _ _ ?hw43053 ?_
  case hw43053 => kernel_rfl
  intro K hK
  go_simp
  refine hK _ _ ?_
  clear hK K
  refine @BigFrame.wpList_want _ _ _ _ _ _ _ ?hw43054 ?_
  case hw43054 => kernel_rfl
  intro K hK
  go_simp
  go_at_call 56
  refine (HBK.out _ K2.out).mono ?_
  rintro e w6 ⟨lv6, pv6, rfl, k6, SL6, m6⟩
  obtain ⟨lad6, lc6, rfl⟩ := m6.lvs.shape
  obtain ⟨pad6, pc6, rfl⟩ := m6.pts.shape
  rw [HPN1.out] at m6 ⊢
  rw [← HLN.out, ← HPN.out] at m6 ⊢
  have K6 := Lib.hid (K2.out.next1 k6)
  have T6 := Lib.hid ((k6.block tb (lt_of_block T2.out) (Nat.ne_of_lt (lt_of_block T2.out))).trans T2.out)
  have R6 := Lib.hid ((k6.block rb (lt_of_block R2.out) (Nat.ne_of_lt (lt_of_block R2.out))).trans R2.out)
  clear k6
  refine hK _ _ ?_
  clear hK K
  refine wpList_store_row rfl 27 _ _ rfl (tb) #[.slice lad6 ln lc6, .slice pad6 pn pc6] rfl rfl 27 #[.slice lad ln lc, .slice pad pn pc] T6.out treeInfo rfl (tree_all _ _ _ _ _ _) ?_
  simp only [Act.put]
  obtain ⟨sz, hsz⟩ : ∃ sz, sz = w2.heap.size := ⟨_, rfl⟩
  have HTZ := Lib.hid (show tb < sz by rw [hsz]; exact lt_of_block T2.out)
  have HRZ := Lib.hid (show rb < sz by rw [hsz]; exact lt_of_block R2.out)
  have HWZ := Lib.hid (show w.heap.size ≤ sz by rw [hsz]; exact K2.out.size)
  rw [← hsz] at m6
  have t7 := setRow_heap w6 tb _ #[.slice lad6 ln lc6, .slice pad6 pn pc6] _ _ T6.out
  have g7 := grown_setRow w6 tb #[.slice lad6 ln lc6, .slice pad6 pn pc6]
  have m7 := m6.aside (b := tb) HTZ.out g7
  have F7 := Lib.hid ((K6.out.fr (B := fun k => k < w.heap.size)).trans (grown_fr (B := fun k => k < w.heap.size) g7 (fun k e b => by cases e; exact HTB.out b)))
  have R7 := Lib.hid ((g7.block rb (lt_of_block R6.out) (fun e => HTR.out (Option.some.inj e).symm)).trans R6.out)
  generalize w6.setRow tb #[.slice lad6 ln lc6, .slice pad6 pn pc6] = w7 at t7 m7 F7 R7 ⊢
  clear m6 hsz g7 K6 T6 R6
  obtain ⟨g8, cap8, he8, hgb8, hth8, hm8, hg8⟩ := m7.leaf k HKL.out Lf.zero Lf.zero_ok
  rw [← HLN.out] at he8
  injection he8 with hea hez hec
  subst hea
  clear hez hec
  have HTH := Lib.hid hth8
  have hne : ∀ b, b < sz → some b ≠ some g8 := fun b hb e => hgb8 (by rw [← Option.some.inj e]; exact hb)
  have hb8 := (hg8.block tb (lt_of_block t7) (hne tb HTZ.out)).trans t7
  have hr8 := (hg8.block rb (lt_of_block R7.out) (hne rb HRZ.out)).trans R7.out
  have hf8 := F7.out.trans (grown_fr (B := fun k => k < w.heap.size) hg8 (fun k e b => by cases e; exact hgb8 (Nat.lt_of_lt_of_le b HWZ.out)))
  have B7 := Lib.hid t7
  have M8 := Lib.hid hm8
  have B8 := Lib.hid hb8
  have R8 := Lib.hid hr8
  have F8 := Lib.hid hf8
  clear m7 t7 hgb8 hth8 hm8 hg8 hb8 hr8 hf8 hne
  have t0 := two_cell0 B7.out
  go_upto_region 4 with fail
  refine wp_region_lit ?_
  refine @BigFrame.wpList_want _ _ _ _ _ _ _ ?hw43055 ?_
  case hw43055 => kernel_rfl
  intro K hK
  go_simp
  refine hK _ _ ?_
  clear hK K
  refine @BigFrame.wpList_want _ _ _ _ _ _ _ ?hw43056 ?_
  case hw43056 => kernel_rfl
  intro K hK
  go_simp
  refine hK _ _ ?_
  clear hK K
  refine @BigFrame.wpList_want _ _ _ _ _ _ _ ?hw43057 ?_
  case hw43057 => kernel_rfl
  intro K hK
  go_simp
  refine hK _ _ ?_
  clear hK K
  refine @wpL_build0 _ _ _ _ _ _ _ ?hw43058 36 rfl _ (build_leaf0 _) ?_
  case hw43058 => kernel_rfl
  simp only [Act.put, List.setIfInBounds_toArray, List.set_cons_zero, List.set_cons_succ]
  refine @BigFrame.wpList_want _ _ _ _ _ _ _ ?hw43059 ?_
  case hw43059 => kernel_rfl
  intro K hK
  go_simp
  refine hK _ _ ?_
  clear hK K
  refine @wpL_store_mid _ _ _ _ _ _ _ ?hwr97 36 _ _ rfl (g8) (k * 97) Lf.zero.cells.toArray rfl rfl (by rw [Lf.size Lf.zero_ok]; exact HTH.out) (leafInfo (Lf.size Lf.zero_ok)) Lf.zero.all ?_
  case hwr97 => kernel_rfl
  simp only [Act.put]
  generalize w7.setCells g8 (k * 97) Lf.zero.cells = w8 at M8 B8 R8 F8 ⊢
  clear t0 HTH
  obtain ⟨L1, hL1⟩ : ∃ L1, L1 = L.set k Lf.zero := ⟨_, rfl⟩
  rw [← hL1] at M8
  have HLN1 := Lib.hid (show L1.length = ln by rw [hL1, List.length_set, HLN.out])
  have HL1 := Lib.hid hL1
  have HPN2 := Lib.hid (show P1.length = pn by rw [HPN1.out, HPN.out])
  have HPQ := Lib.hid (show pn = ln - 1 by rw [HPN.out, HLN.out]; exact HPE.out)
  have hla := OwnC.addr M8.out.lo
  have hpa := OwnC.addr M8.out.po
  rw [List.length_map, HLN1.out] at hla
  rw [zip_len M8.out, HPN2.out] at hpa
  have HLA := Lib.hid hla
  have HPA := Lib.hid hpa
  have B8 : Hid (w8.heap[tb]? = some (.cells #[.slice (some ⟨g8, 0, none⟩) ln lc6, .slice pad6 (ln - 1) pc6] 27 (0, 0))) := Lib.hid (by rw [← HPQ.out]; exact B8.out)
  clear hL1 hla hpa
  go_wp2
  go_loopw [18] (fun _ wr => ∃ m : Nat, Hid (m ≤ ln) ∧ Hid (Tt.ends L1 ln = Tt.ends L1 m) ∧ Hid (Mine (fun k => k < sz) wr (.slice (some ⟨g8, 0, none⟩) ln lc6) (.slice pad6 pn pc6) L1 P1 SL6) ∧ Hid (Frm (fun k => k < w.heap.size) w wr) ∧ Hid (wr.heap[tb]? = some (.cells #[.slice (some ⟨g8, 0, none⟩) m lc6, .slice pad6 (m - 1) pc6] 27 (0, 0))) ∧ Hid (wr.heap[rb]? = some (.cells #[.slice none 0 0, .slice none 0 0] 27 (0, 0)))) (fun _ wr => lenAt wr tb)
  case atStart => exact ⟨ln, Lib.hid (Nat.le_refl _), Lib.hid rfl, M8, F8, B8, R8⟩
  case round =>
    clear M8 F8 B8 R8
    obtain ⟨m, hi, HEN, HM, HF, HB, HR⟩ := hrel
    obtain ⟨n, hn⟩ : ∃ n, n = m - 1 := ⟨_, rfl⟩
    rw [← hn] at HB
    have t0 := two_cell0 HB.out
    by_cases hm0 : m = 0
    · have HMZ := Lib.hid hm0
      have HE := Lib.hid (show Tt.ends L1 ln = m by rw [HEN.out, hm0]; rfl)
      have HNQ := Lib.hid hn
      have hgt : ¬ (0 : Int) < (m : Int) := by omega
      have hgt2 : ¬ 0 < m := by omega
      clear hm0 hn HEN
      go_upto_region 5 with fail
      refine wp_region_lit ?_
      refine @BigFrame.wpList_want _ _ _ _ _ _ _ ?hw43060 ?_
      case hw43060 => kernel_rfl
      intro K hK
      go_simp
      refine hK _ _ ?_
      clear hK K
      refine @BigFrame.wpList_want _ _ _ _ _ _ _ ?hw43061 ?_
      case hw43061 => kernel_rfl
      intro K hK
      go_simp
      refine hK _ _ ?_
      clear hK K
      refine @BigFrame.wpList_want _ _ _ _ _ _ _ ?hw43062 ?_
      case hw43062 => kernel_rfl
      intro K hK
      go_simp
      refine hK _ _ ?_
      clear hK K
      refine @BigFrame.wpList_want _ _ _ _ _ _ _ ?hw43063 ?_
      case hw43063 => kernel_rfl
      intro K hK
      go_simp
      refine hK _ _ ?_
      clear hK K
      refine @BigFrame.wpList_want _ _ _ _ _ _ _ ?hw43064 ?_
      case hw43064 => kernel_rfl
      intro K hK
      go_simp
      refine hK _ _ ?_
      clear hK K
      refine @wpList_skip _ _ _ _ _ _ _ ?hw43065 ?_
      case hw43065 => kernel_rfl
      simp only [Act.put, List.setIfInBounds_toArray, List.set_cons_zero, List.set_cons_succ]
      refine @wpList_skip _ _ _ _ _ _ _ ?hw43066 ?_
      case hw43066 => kernel_rfl
      simp only [Act.put, List.setIfInBounds_toArray, List.set_cons_zero, List.set_cons_succ]
      refine @wpList_skip _ _ _ _ _ _ _ ?hw43067 ?_
      case hw43067 => kernel_rfl
      simp only [Act.put, List.setIfInBounds_toArray, List.set_cons_zero, List.set_cons_succ]
      refine @wpList_skip _ _ _ _ _ _ _ ?hw43068 ?_
      case hw43068 => kernel_rfl
      simp only [Act.put, List.setIfInBounds_toArray, List.set_cons_zero, List.set_cons_succ]
      refine @wpList_skip _ _ _ _ _ _ _ ?hw43069 ?_
      case hw43069 => kernel_rfl
      simp only [Act.put, List.setIfInBounds_toArray, List.set_cons_zero, List.set_cons_succ]
      refine @wpList_skip _ _ _ _ _ _ _ ?hw43070 ?_
      case hw43070 => kernel_rfl
      simp only [Act.put, List.setIfInBounds_toArray, List.set_cons_zero, List.set_cons_succ]
      refine @wpList_skip _ _ _ _ _ _ _ ?hw43071 ?_
      case hw43071 => kernel_rfl
      simp only [Act.put, List.setIfInBounds_toArray, List.set_cons_zero, List.set_cons_succ]
      refine @wpList_skip _ _ _ _ _ _ _ ?hw43072 ?_
      case hw43072 => kernel_rfl
      simp only [Act.put, List.setIfInBounds_toArray, List.set_cons_zero, List.set_cons_succ]
      refine @wpList_skip _ _ _ _ _ _ _ ?hw43073 ?_
      case hw43073 => kernel_rfl
      simp only [Act.put, List.setIfInBounds_toArray, List.set_cons_zero, List.set_cons_succ]
      refine @wpList_skip _ _ _ _ _ _ _ ?hw43074 ?_
      case hw43074 => kernel_rfl
      simp only [Act.put, List.setIfInBounds_toArray, List.set_cons_zero, List.set_cons_succ]
      refine @BigFrame.wpList_want _ _ _ _ _ _ _ ?hw43075 ?_
      case hw43075 => kernel_rfl
      intro K hK
      go_simp
      refine hK _ _ ?_
      clear hK K
      clear hgt hgt2
      have HCM := Lib.hid (show Mine (fun k => k < sz) wr (.slice (some ⟨g8, 0, none⟩) m lc6) (.slice pad6 n pc6) (L1.take m) (P1.take n) (SL6.take n) from by
        have hcm := HM.out
        rw [← HLN1.out, ← HPN2.out] at hcm
        have h1 := HLN1.out
        have h2 := HPN2.out
        have h3 := HPQ.out
        have h4 := HNQ.out
        have h5 := hi.out
        exact hcm.cut m n (by omega) (by omega))
      clear t0
      go_upto_region 9 with fail
      refine wp_region_lit ?_
      refine @wpList_load_known _ _ _ _ _ _ _ ?hw43076 27 (.tmp 2) rfl (tb) (0) rfl (.agg #[.slice (some ⟨g8, 0, none⟩) m lc6, .slice pad6 n pc6]) (run_loadVar_row wr tb 27 27 _ (0, 0) _ HB.out Try.underlying27 rfl treeInfo) ?_
      case hw43076 => kernel_rfl
      simp only [Act.put, List.setIfInBounds_toArray, List.set_cons_zero, List.set_cons_succ]
      refine wpList_store_row rfl 27 _ _ rfl (rb) #[.slice (some ⟨g8, 0, none⟩) m lc6, .slice pad6 n pc6] rfl rfl 27 #[.slice none 0 0, .slice none 0 0] HR.out treeInfo rfl (tree_all _ _ _ _ _ _) ?_
      simp only [Act.put]
      refine @BigFrame.wpList_want _ _ _ _ _ _ _ ?hw43077 ?_
      case hw43077 => kernel_rfl
      intro K hK
      go_simp
      refine hK _ _ ?_
      clear hK K
      have R12 := setRow_heap wr rb _ #[.slice (some ⟨g8, 0, none⟩) m lc6, .slice pad6 n pc6] _ _ HR.out
      have g12 := grown_setRow wr rb #[.slice (some ⟨g8, 0, none⟩) m lc6, .slice pad6 n pc6]
      have M12 := Lib.hid (HCM.out.aside (b := rb) HRZ.out g12)
      have F12 := Lib.hid ((HF.out.trans (grown_fr (B := fun k => k < w.heap.size) g12 (fun k e b => by cases e; exact HRB.out b))).kept (fun k hk => hk))
      generalize wr.setRow rb #[.slice (some ⟨g8, 0, none⟩) m lc6, .slice pad6 n pc6] = wz at R12 g12 M12 F12 ⊢
      go_wp2
      refine bodyPost_ret (results_row2 rfl _ _ rb 27 _ (0, 0) _ rfl R12 Try.underlying27 rfl treeInfo) rfl ?_
      refine ⟨_, _, rfl, F12.out, SL6.take n, ?_⟩
      have hm := M12.out
      have hre : Tt.ends (L.set k Lf.zero) L.length = m := by rw [← HL1.out, ← HLN.out]; exact HE.out
      have e1 : Tt.remL L k = L1.take m := by rw [Tt.remL, hre, ← HL1.out]
      have e2 : Tt.remP L P k = P1.take n := by rw [Tt.remP, hre, HNQ.out, HP1.out, HLN.out]
      rw [e1, e2]
      exact hm.mono (fun _ b => Nat.lt_of_lt_of_le b HWZ.out)
    · have hmn : m = n + 1 := by omega
      have hgt : (0 : Int) < (m : Int) := by omega
      have hgt2 : 0 < m := by omega
      have hnm : (n : Int) < (m : Int) := by omega
      have hn0 : ¬ (n : Int) < 0 := by omega
      have hnL : n < L1.length := by rw [HLN1.out]; have := hi.out; omega
      obtain ⟨ad0, g0, c0, hv0, hc0, _⟩ := HM.out.lo.at
      obtain ⟨ha0, _, hg0, hr0⟩ := hc0 n (by rw [List.length_map]; exact hnL)
      subst ha0
      injection hv0 with hx9 hy9 hz9
      injection hx9 with hx9
      injection hx9 with hx9 hw9 hu9
      subst hx9
      rw [List.getElem_map] at hr0
      have c0 : wr.cell? ⟨g8, n * 97, none⟩ = some (.int .i64 (Tt.nameAt L1 (n : Int))) := by
        have h8 := hr0 0 (.int .i64 L1[n].name) (by simp [Lf.cells])
        rw [nameAt_of hnL]
        simpa using h8
      obtain ⟨nm, hN⟩ : ∃ nm, nm = Tt.nameAt L1 (n : Int) := ⟨_, rfl⟩
      rw [← hN] at c0
      have hen : Tt.ends L1 m = if nm == 0 then Tt.ends L1 n else m := by rw [hmn, Tt.ends, ← hN]
      have HEN2 := Lib.hid (HEN.out.trans hen)
      have HJW := Lib.hid (show IntKind.i64.wrap ((m : Int) - 1) = (n : Int) by rw [IntKind.wrap_i64]; have := hi.out; omega)
      have HMN := Lib.hid hmn
      have HI := Lib.hid hi.out
      have HNQ := Lib.hid hn
      clear hm0 hmn hnL hc0 hg0 hr0 hN hen HEN hy9 hz9 hw9 hu9 hi hn
      cases hnb : (nm == 0) with
      | true =>
        have HNB := Lib.hid hnb
        have HEN3 := Lib.hid (show Tt.ends L1 ln = Tt.ends L1 n by have := HEN2.out; rw [if_pos hnb] at this; exact this)
        clear hnb HEN2
        have HS1 := Lib.hid (fun w => run_cut (P := Try.prog) w 24 36 97 Try.underlying24 (by kernel_rfl) (by kernel_rfl) (some ⟨g8, 0, none⟩) (.inr ⟨g8, rfl⟩) m lc6 n (by have := HLA.out.2; have := HI.out; have := HMN.out; omega))
        go_upto_region 5 with fail
        refine wp_region_lit ?_
        refine @BigFrame.wpList_want _ _ _ _ _ _ _ ?hw43099 ?_
        case hw43099 => kernel_rfl
        intro K hK
        go_simp
        refine hK _ _ ?_
        clear hK K
        refine @BigFrame.wpList_want _ _ _ _ _ _ _ ?hw43100 ?_
        case hw43100 => kernel_rfl
        intro K hK
        go_simp
        refine hK _ _ ?_
        clear hK K
        refine @BigFrame.wpList_want _ _ _ _ _ _ _ ?hw43101 ?_
        case hw43101 => kernel_rfl
        intro K hK
        go_simp
        refine hK _ _ ?_
        clear hK K
        refine @BigFrame.wpList_want _ _ _ _ _ _ _ ?hw43102 ?_
        case hw43102 => kernel_rfl
        intro K hK
        go_simp
        refine hK _ _ ?_
        clear hK K
        refine @BigFrame.wpList_want _ _ _ _ _ _ _ ?hw43103 ?_
        case hw43103 => kernel_rfl
        intro K hK
        go_simp
        refine hK _ _ ?_
        clear hK K
        refine @BigFrame.wpList_want _ _ _ _ _ _ _ ?hw43104 ?_
        case hw43104 => kernel_rfl
        intro K hK
        go_simp
        refine hK _ _ ?_
        clear hK K
        refine @BigFrame.wpList_want _ _ _ _ _ _ _ ?hw43105 ?_
        case hw43105 => kernel_rfl
        intro K hK
        go_simp
        refine hK _ _ ?_
        clear hK K
        refine @BigFrame.wpList_want _ _ _ _ _ _ _ ?hw43106 ?_
        case hw43106 => kernel_rfl
        intro K hK
        go_simp
        refine hK _ _ ?_
        clear hK K
        refine @BigFrame.wpList_want _ _ _ _ _ _ _ ?hw43107 ?_
        case hw43107 => kernel_rfl
        intro K hK
        go_simp
        refine hK _ _ ?_
        clear hK K
        refine @BigFrame.wpList_want _ _ _ _ _ _ _ ?hw43108 ?_
        case hw43108 => kernel_rfl
        intro K hK
        go_simp
        refine hK _ _ ?_
        clear hK K
        refine @BigFrame.wpList_want _ _ _ _ _ _ _ ?hw43109 ?_
        case hw43109 => kernel_rfl
        intro K hK
        go_simp
        refine hK _ _ ?_
        clear hK K
        rw [HJW.out]
        refine @BigFrame.wpList_want _ _ _ _ _ _ _ ?hw43110 ?_
        case hw43110 => kernel_rfl
        intro K hK
        go_simp
        refine hK _ _ ?_
        clear hK K
        refine @BigFrame.wpList_want _ _ _ _ _ _ _ ?hw43111 ?_
        case hw43111 => kernel_rfl
        intro K hK
        go_simp
        refine hK _ _ ?_
        clear hK K
        refine @BigFrame.wpList_want _ _ _ _ _ _ _ ?hw43112 ?_
        case hw43112 => kernel_rfl
        intro K hK
        go_simp
        refine hK _ _ ?_
        clear hK K
        refine @BigFrame.wpList_want _ _ _ _ _ _ _ ?hw43113 ?_
        case hw43113 => kernel_rfl
        intro K hK
        go_simp
        rw [HNB.out]
        refine hK _ _ ?_
        clear hK K
        refine @BigFrame.wpList_want _ _ _ _ _ _ _ ?hw43114 ?_
        case hw43114 => kernel_rfl
        intro K hK
        go_simp
        refine hK _ _ ?_
        clear hK K
        have HB0 := HB
        have HJW0 := HJW
        clear c0 hn0
        go_upto_region 6 with fail
        refine wp_region_lit ?_
        refine @BigFrame.wpList_want _ _ _ _ _ _ _ ?hw43116 ?_
        case hw43116 => kernel_rfl
        intro K hK
        go_simp
        refine hK _ _ ?_
        clear hK K
        refine @BigFrame.wpList_want _ _ _ _ _ _ _ ?hw43117 ?_
        case hw43117 => kernel_rfl
        intro K hK
        go_simp
        refine hK _ _ ?_
        clear hK K
        refine @BigFrame.wpList_want _ _ _ _ _ _ _ ?hw43118 ?_
        case hw43118 => kernel_rfl
        intro K hK
        go_simp
        refine hK _ _ ?_
        clear hK K
        refine @BigFrame.wpList_want _ _ _ _ _ _ _ ?hw43119 ?_
        case hw43119 => kernel_rfl
        intro K hK
        go_simp
        refine hK _ _ ?_
        clear hK K
        refine @BigFrame.wpList_want _ _ _ _ _ _ _ ?hw43120 ?_
        case hw43120 => kernel_rfl
        intro K hK
        go_simp
        refine hK _ _ ?_
        clear hK K
        refine @BigFrame.wpList_want _ _ _ _ _ _ _ ?hw43121 ?_
        case hw43121 => kernel_rfl
        intro K hK
        go_simp
        refine hK _ _ ?_
        clear hK K
        rw [HJW0.out]
        refine @wpL_slice _ _ _ _ _ _ _ ?hw43115 24 (.tmp 35) (.tmp 39) rfl (.slice (some ⟨g8, 0, none⟩) m lc6) (.int .i64 (n : Int)) (.slice (some ⟨g8, 0, none⟩) n lc6) rfl rfl (HS1.out _) ?_
        case hw43115 => kernel_rfl
        simp only [Act.put, List.setIfInBounds_toArray, List.set_cons_zero, List.set_cons_succ]
        refine @BigFrame.wpList_want _ _ _ _ _ _ _ ?hw43122 ?_
        case hw43122 => kernel_rfl
        intro K hK
        go_simp
        refine hK _ _ ?_
        clear hK K
        refine @wpL_store_part _ _ _ _ _ _ _ ?hw43115b 24 _ _ rfl (tb) 0 [.slice (some ⟨g8, 0, none⟩) m lc6, .slice pad6 n pc6] 27 (.slice (some ⟨g8, 0, none⟩) n lc6) rfl rfl (HB0.out) (by simp) rfl (by kernel_rfl) ?_
        case hw43115b => kernel_rfl
        simp only [Act.put]
        have hb3 := cells_set (cs := [.slice (some ⟨g8, 0, none⟩) m lc6, .slice pad6 n pc6]) HB.out 0 (.slice (some ⟨g8, 0, none⟩) n lc6)
        have g3 := grown_set wr tb 0 (.slice (some ⟨g8, 0, none⟩) n lc6)
        have R3 := Lib.hid ((g3.block rb (lt_of_block HR.out) (fun e => HTR.out (Option.some.inj e).symm)).trans HR.out)
        have M3 := Lib.hid (HM.out.aside (b := tb) HTZ.out g3)
        have F3 := Lib.hid (HF.out.trans (grown_fr (B := fun k => k < w.heap.size) g3 (fun k e b => by cases e; exact HTB.out b)))
        have B3 : Hid ((wr.setCell ⟨tb, 0, none⟩ (.slice (some ⟨g8, 0, none⟩) n lc6)).heap[tb]? = some (.cells #[.slice (some ⟨g8, 0, none⟩) n lc6, .slice pad6 n pc6] 27 (0, 0))) := hb3
        have HLM := Lib.hid (show lenAt wr tb = m from lenAt_row HB.out)
        generalize wr.setCell ⟨tb, 0, none⟩ (.slice (some ⟨g8, 0, none⟩) n lc6) = w3 at R3 M3 F3 B3 ⊢
        clear hb3 g3 t0 hgt hgt2 hnm
        have t1 := two_cell1 B3.out
        by_cases hz : n = 0
        · have HZ := Lib.hid hz
          have hgt : ¬ (0 : Int) < (n : Int) := by omega
          have hgt2 : ¬ 0 < n := by omega
          clear hz
          go_upto_region 7 with fail
          refine wp_region_lit ?_
          refine @BigFrame.wpList_want _ _ _ _ _ _ _ ?hw43123 ?_
          case hw43123 => kernel_rfl
          intro K hK
          go_simp
          refine hK _ _ ?_
          clear hK K
          refine @BigFrame.wpList_want _ _ _ _ _ _ _ ?hw43124 ?_
          case hw43124 => kernel_rfl
          intro K hK
          go_simp
          refine hK _ _ ?_
          clear hK K
          refine @BigFrame.wpList_want _ _ _ _ _ _ _ ?hw43125 ?_
          case hw43125 => kernel_rfl
          intro K hK
          go_simp
          refine hK _ _ ?_
          clear hK K
          refine @BigFrame.wpList_want _ _ _ _ _ _ _ ?hw43126 ?_
          case hw43126 => kernel_rfl
          intro K hK
          go_simp
          refine hK _ _ ?_
          clear hK K
          clear t1 hgt hgt2
          go_wp2
          go_roundw
          case rel => exact ⟨n, Lib.hid (by have := HI.out; have := HMN.out; omega), HEN3, M3, F3, by have := B3.out; rw [HZ.out] at this ⊢; exact Lib.hid this, R3⟩
          case measure => rw [HLM.out, lenAt_row B3.out]; have := HMN.out; omega
        · have HZ := Lib.hid hz
          have hgt : (0 : Int) < (n : Int) := by omega
          have hgt2 : 0 < n := by omega
          have HJW1 := Lib.hid (show IntKind.i64.wrap ((n : Int) - 1) = ((n - 1 : Nat) : Int) by rw [IntKind.wrap_i64]; have := HI.out; have := HMN.out; omega)
          have HS2 := Lib.hid (fun w => run_cut (P := Try.prog) w 25 70 66 Try.underlying25 (by kernel_rfl) (by kernel_rfl) pad6 HPA.out.1 n pc6 (n - 1) (by have := HPA.out.2; have := HI.out; have := HMN.out; have := HPQ.out; omega))
          obtain ⟨q, hq⟩ : ∃ q, q = n - 1 := ⟨_, rfl⟩
          rw [← hq] at HJW1 HS2
          have HQ := Lib.hid hq
          clear hz hq
          go_upto_region 7 with fail
          refine wp_region_lit ?_
          refine @BigFrame.wpList_want _ _ _ _ _ _ _ ?hw43127 ?_
          case hw43127 => kernel_rfl
          intro K hK
          go_simp
          refine hK _ _ ?_
          clear hK K
          refine @BigFrame.wpList_want _ _ _ _ _ _ _ ?hw43128 ?_
          case hw43128 => kernel_rfl
          intro K hK
          go_simp
          refine hK _ _ ?_
          clear hK K
          refine @BigFrame.wpList_want _ _ _ _ _ _ _ ?hw43129 ?_
          case hw43129 => kernel_rfl
          intro K hK
          go_simp
          refine hK _ _ ?_
          clear hK K
          refine @BigFrame.wpList_want _ _ _ _ _ _ _ ?hw43130 ?_
          case hw43130 => kernel_rfl
          intro K hK
          go_simp
          refine hK _ _ ?_
          clear hK K
          clear hgt hgt2
          have HB1 := B3
          go_upto_region 8 with fail
          refine wp_region_lit ?_
          refine @BigFrame.wpList_want _ _ _ _ _ _ _ ?hw43132 ?_
          case hw43132 => kernel_rfl
          intro K hK
          go_simp
          refine hK _ _ ?_
          clear hK K
          refine @BigFrame.wpList_want _ _ _ _ _ _ _ ?hw43133 ?_
          case hw43133 => kernel_rfl
          intro K hK
          go_simp
          refine hK _ _ ?_
          clear hK K
          refine @BigFrame.wpList_want _ _ _ _ _ _ _ ?hw43134 ?_
          case hw43134 => kernel_rfl
          intro K hK
          go_simp
          refine hK _ _ ?_
          clear hK K
          refine @BigFrame.wpList_want _ _ _ _ _ _ _ ?hw43135 ?_
          case hw43135 => kernel_rfl
          intro K hK
          go_simp
          refine hK _ _ ?_
          clear hK K
          refine @BigFrame.wpList_want _ _ _ _ _ _ _ ?hw43136 ?_
          case hw43136 => kernel_rfl
          intro K hK
          go_simp
          refine hK _ _ ?_
          clear hK K
          refine @BigFrame.wpList_want _ _ _ _ _ _ _ ?hw43137 ?_
          case hw43137 => kernel_rfl
          intro K hK
          go_simp
          refine hK _ _ ?_
          clear hK K
          rw [HJW1.out]
          refine @wpL_slice _ _ _ _ _ _ _ ?hw43131 25 (.tmp 47) (.tmp 51) rfl (.slice pad6 n pc6) (.int .i64 (q : Int)) (.slice pad6 q pc6) rfl rfl (HS2.out _) ?_
          case hw43131 => kernel_rfl
          simp only [Act.put, List.setIfInBounds_toArray, List.set_cons_zero, List.set_cons_succ]
          refine @BigFrame.wpList_want _ _ _ _ _ _ _ ?hw43138 ?_
          case hw43138 => kernel_rfl
          intro K hK
          go_simp
          refine hK _ _ ?_
          clear hK K
          refine @wpL_store_part _ _ _ _ _ _ _ ?hw43131b 25 _ _ rfl (tb) 1 [.slice (some ⟨g8, 0, none⟩) n lc6, .slice pad6 n pc6] 27 (.slice pad6 q pc6) rfl rfl (HB1.out) (by simp) rfl (by kernel_rfl) ?_
          case hw43131b => kernel_rfl
          simp only [Act.put]
          have hb4 := cells_set (cs := [.slice (some ⟨g8, 0, none⟩) n lc6, .slice pad6 n pc6]) B3.out 1 (.slice pad6 q pc6)
          have g4 := grown_set w3 tb 1 (.slice pad6 q pc6)
          have R4 := Lib.hid ((g4.block rb (lt_of_block R3.out) (fun e => HTR.out (Option.some.inj e).symm)).trans R3.out)
          have M4 := Lib.hid (M3.out.aside (b := tb) HTZ.out g4)
          have F4 := Lib.hid (F3.out.trans (grown_fr (B := fun k => k < w.heap.size) g4 (fun k e b => by cases e; exact HTB.out b)))
          have B4 : Hid ((w3.setCell ⟨tb, 1, none⟩ (.slice pad6 q pc6)).heap[tb]? = some (.cells #[.slice (some ⟨g8, 0, none⟩) n lc6, .slice pad6 q pc6] 27 (0, 0))) := hb4
          generalize w3.setCell ⟨tb, 1, none⟩ (.slice pad6 q pc6) = w4 at R4 M4 F4 B4 ⊢
          clear hb4 g4 t1
          go_wp2
          go_roundw
          case rel => exact ⟨n, Lib.hid (by have := HI.out; have := HMN.out; omega), HEN3, M4, F4, by have := B4.out; rw [HQ.out] at this; exact Lib.hid this, R4⟩
          case measure => rw [HLM.out, lenAt_row B4.out]; have := HMN.out; omega
      | false =>
        have HNB := Lib.hid hnb
        have HE := Lib.hid (show Tt.ends L1 ln = m by have := HEN2.out; rw [if_neg (by rw [hnb]; decide)] at this; exact this)
        clear hnb HEN2
        go_upto_region 5 with fail
        refine wp_region_lit ?_
        refine @BigFrame.wpList_want _ _ _ _ _ _ _ ?hw43078 ?_
        case hw43078 => kernel_rfl
        intro K hK
        go_simp
        refine hK _ _ ?_
        clear hK K
        refine @BigFrame.wpList_want _ _ _ _ _ _ _ ?hw43079 ?_
        case hw43079 => kernel_rfl
        intro K hK
        go_simp
        refine hK _ _ ?_
        clear hK K
        refine @BigFrame.wpList_want _ _ _ _ _ _ _ ?hw43080 ?_
        case hw43080 => kernel_rfl
        intro K hK
        go_simp
        refine hK _ _ ?_
        clear hK K
        refine @BigFrame.wpList_want _ _ _ _ _ _ _ ?hw43081 ?_
        case hw43081 => kernel_rfl
        intro K hK
        go_simp
        refine hK _ _ ?_
        clear hK K
        refine @BigFrame.wpList_want _ _ _ _ _ _ _ ?hw43082 ?_
        case hw43082 => kernel_rfl
        intro K hK
        go_simp
        refine hK _ _ ?_
        clear hK K
        refine @BigFrame.wpList_want _ _ _ _ _ _ _ ?hw43083 ?_
        case hw43083 => kernel_rfl
        intro K hK
        go_simp
        refine hK _ _ ?_
        clear hK K
        refine @BigFrame.wpList_want _ _ _ _ _ _ _ ?hw43084 ?_
        case hw43084 => kernel_rfl
        intro K hK
        go_simp
        refine hK _ _ ?_
        clear hK K
        refine @BigFrame.wpList_want _ _ _ _ _ _ _ ?hw43085 ?_
        case hw43085 => kernel_rfl
        intro K hK
        go_simp
        refine hK _ _ ?_
        clear hK K
        refine @BigFrame.wpList_want _ _ _ _ _ _ _ ?hw43086 ?_
        case hw43086 => kernel_rfl
        intro K hK
        go_simp
        refine hK _ _ ?_
        clear hK K
        refine @BigFrame.wpList_want _ _ _ _ _ _ _ ?hw43087 ?_
        case hw43087 => kernel_rfl
        intro K hK
        go_simp
        refine hK _ _ ?_
        clear hK K
        refine @BigFrame.wpList_want _ _ _ _ _ _ _ ?hw43088 ?_
        case hw43088 => kernel_rfl
        intro K hK
        go_simp
        refine hK _ _ ?_
        clear hK K
        rw [HJW.out]
        refine @BigFrame.wpList_want _ _ _ _ _ _ _ ?hw43089 ?_
        case hw43089 => kernel_rfl
        intro K hK
        go_simp
        refine hK _ _ ?_
        clear hK K
        refine @BigFrame.wpList_want _ _ _ _ _ _ _ ?hw43090 ?_
        case hw43090 => kernel_rfl
        intro K hK
        go_simp
        refine hK _ _ ?_
        clear hK K
        refine @BigFrame.wpList_want _ _ _ _ _ _ _ ?hw43091 ?_
        case hw43091 => kernel_rfl
        intro K hK
        go_simp
        refine hK _ _ ?_
        clear hK K
        refine @BigFrame.wpList_want _ _ _ _ _ _ _ ?hw43092 ?_
        case hw43092 => kernel_rfl
        intro K hK
        go_simp
        rw [HNB.out]
        refine hK _ _ ?_
        clear hK K
        refine @BigFrame.wpList_want _ _ _ _ _ _ _ ?hw43093 ?_
        case hw43093 => kernel_rfl
        intro K hK
        go_simp
        refine hK _ _ ?_
        clear hK K
        clear hgt hgt2 c0 hnm hn0
        have HCM := Lib.hid (show Mine (fun k => k < sz) wr (.slice (some ⟨g8, 0, none⟩) m lc6) (.slice pad6 n pc6) (L1.take m) (P1.take n) (SL6.take n) from by
          have hcm := HM.out
          rw [← HLN1.out, ← HPN2.out] at hcm
          have h1 := HLN1.out
          have h2 := HPN2.out
          have h3 := HPQ.out
          have h4 := HNQ.out
          have h5 := HI.out
          exact hcm.cut m n (by omega) (by omega))
        clear t0
        go_upto_region 9 with fail
        refine wp_region_lit ?_
        refine @wpList_load_known _ _ _ _ _ _ _ ?hw43094 27 (.tmp 2) rfl (tb) (0) rfl (.agg #[.slice (some ⟨g8, 0, none⟩) m lc6, .slice pad6 n pc6]) (run_loadVar_row wr tb 27 27 _ (0, 0) _ HB.out Try.underlying27 rfl treeInfo) ?_
        case hw43094 => kernel_rfl
        simp only [Act.put, List.setIfInBounds_toArray, List.set_cons_zero, List.set_cons_succ]
        refine wpList_store_row rfl 27 _ _ rfl (rb) #[.slice (some ⟨g8, 0, none⟩) m lc6, .slice pad6 n pc6] rfl rfl 27 #[.slice none 0 0, .slice none 0 0] HR.out treeInfo rfl (tree_all _ _ _ _ _ _) ?_
        simp only [Act.put]
        refine @BigFrame.wpList_want _ _ _ _ _ _ _ ?hw43095 ?_
        case hw43095 => kernel_rfl
        intro K hK
        go_simp
        refine hK _ _ ?_
        clear hK K
        have R12 := setRow_heap wr rb _ #[.slice (some ⟨g8, 0, none⟩) m lc6, .slice pad6 n pc6] _ _ HR.out
        have g12 := grown_setRow wr rb #[.slice (some ⟨g8, 0, none⟩) m lc6, .slice pad6 n pc6]
        have M12 := Lib.hid (HCM.out.aside (b := rb) HRZ.out g12)
        have F12 := Lib.hid ((HF.out.trans (grown_fr (B := fun k => k < w.heap.size) g12 (fun k e b => by cases e; exact HRB.out b))).kept (fun k hk => hk))
        generalize wr.setRow rb #[.slice (some ⟨g8, 0, none⟩) m lc6, .slice pad6 n pc6] = wz at R12 g12 M12 F12 ⊢
        go_wp2
        refine bodyPost_ret (results_row2 rfl _ _ rb 27 _ (0, 0) _ rfl R12 Try.underlying27 rfl treeInfo) rfl ?_
        refine ⟨_, _, rfl, F12.out, SL6.take n, ?_⟩
        have hm := M12.out
        have hre : Tt.ends (L.set k Lf.zero) L.length = m := by rw [← HL1.out, ← HLN.out]; exact HE.out
        have e1 : Tt.remL L k = L1.take m := by rw [Tt.remL, hre, ← HL1.out]
        have e2 : Tt.remP L P k = P1.take n := by rw [Tt.remP, hre, HNQ.out, HP1.out, HLN.out]
        rw [e1, e2]
        exact hm.mono (fun _ b => Nat.lt_of_lt_of_le b HWZ.out)

end Go.Proofs.Ytmmgekchfgmcdaa
