/-
  The landed hashOf.
-/
import Derived.Test.YtmmgekchfgmcdaaGreatDoorTreePut
import Derived.Test.YtmmgekchfgmcdaaGreatDoorTreeRefHash
import Derived.Test.YtmmgekchfgmcdaaGreatDoorBoughLen
import Derived.Test.YtmmgekchfgmcdaaGreatDoorGC

namespace Go.Proofs.YtmmgekchfgmcdaaGreatDoor
open Go.RowKit Go.Lib

set_option maxRecDepth 100000 in
theorem isleaf_yes (x : Int) (_h : IntKind.i64.wrap (x.tmod 2) = 0) (_h2 : x.tmod 2 = 0) (w : World) : Calls Tryz.prog 51 #[.int .i64 x] w fun e w' => e = .returned (.bool true) ∧ w' = w := by
  go_enter Tryz.func51, Tryz.ntmps51
  go_wp2
  go_ret
  exact ⟨rfl, rfl⟩
set_option maxRecDepth 100000 in
theorem isleaf_no (x : Int) (_h : IntKind.i64.wrap (x.tmod 2) = 1) (_h2 : x.tmod 2 = 1) (w : World) : Calls Tryz.prog 51 #[.int .i64 x] w fun e w' => e = .returned (.bool false) ∧ w' = w := by
  go_enter Tryz.func51, Tryz.ntmps51
  go_wp2
  go_ret
  exact ⟨rfl, rfl⟩
theorem info30 {cs : Array Value} (h : cs.size = 32) : (Tryz.prog.info? 39).map (·.size) = some cs.size := by rw [h]; kernel_rfl
theorem sum_pair (a b : List UInt8) (blk : Nat) (u : World) (s t : ByteArray) (hs : s = str a) (ht : t = str b) (h : u.heap[blk]? = some (.cells #[.string s, .string t] 9 (0, 0))) (hl : a.length + b.length ≤ 1000000) :
    Calls Tryz.prog 54 #[.slice (some ⟨blk, 0, none⟩) 2 2] u fun e w' => e = .returned (.agg (bcells (Sm.sum (a ++ b))).toArray) ∧ Kept u.heap.size u.heap.size u w' := by
  subst hs ht
  have hj : joined [str a, str b] [str a, str b].length = a ++ b := by simp [joined, str]
  have := sum_calls [str a, str b] (some ⟨blk, 0, none⟩) 2 blk 0 u (Lib.hid (by show 2 < _; decide)) (Lib.hid (by rw [hj, List.length_append]; omega)) (fun j hj => by
    refine ⟨rfl, lt_of_block h, ?_⟩
    have hj' : j = 0 ∨ j = 1 := by simp at hj; omega
    rcases hj' with rfl | rfl
    · exact two_cell0 h
    · exact two_cell1 h)
  rw [hj] at this
  exact this
theorem sum_single (a : List UInt8) (blk : Nat) (u : World) (s : ByteArray) (hs : s = str a) (h : u.heap[blk]? = some (.cells #[.string s] 9 (0, 0))) (hl : a.length ≤ 1000000) :
    Calls Tryz.prog 54 #[.slice (some ⟨blk, 0, none⟩) 1 1] u fun e w' => e = .returned (.agg (bcells (Sm.sum a)).toArray) ∧ Kept u.heap.size u.heap.size u w' := by
  subst hs
  have hj : joined [str a] [str a].length = a := by simp [joined, str]
  have := sum_calls [str a] (some ⟨blk, 0, none⟩) 1 blk 0 u (Lib.hid (by show 1 < _; decide)) (Lib.hid (by rw [hj]; omega)) (fun j hj => by
    refine ⟨rfl, lt_of_block h, ?_⟩
    obtain rfl : j = 0 := by simp at hj; omega
    simp [World.cell?, h])
  rw [hj] at this
  exact this
set_option maxRecDepth 100000 in
set_option maxHeartbeats 6400000 in
theorem hashof_calls (L : List Lf) (P : List Pr) (hF : Tt.Fine L P) (n : Nat) (hn : n = L.length) (hn1 : 1 ≤ n) : ∀ (k a m : Nat) (p b : Int), m ≤ k → Bo.Seg n a m p b → ∀ (lv pv : Value) (w : World), Tab w → Lvs w lv L → Pts w pv P →
    Calls Tryz.prog 55 #[.agg #[lv, pv], .int .i64 ((Bo.root a m : Nat) : Int)] w fun e w' => e = .returned (.agg (bcells (Tt.hashSeg L P k a m)).toArray) ∧ Kept w.heap.size w.heap.size w w' := by
  intro k
  induction k with
  | zero =>
    intro a m p b h1 h2
    have := (h2.size hn1).1
    omega
  | succ k ih =>
    intro a m p b hmk hseg lv pv w htab hL hP
    obtain ⟨hm1, ham⟩ := hseg.size hn1
    have h64 : n ≤ 64 := by rw [hn]; exact hF.n64
    obtain ⟨lad, lg, lo, lc, rfl, hlc, hlcc⟩ := hL
    have hP0 := hP
    obtain ⟨pad, pg, po, pc, rfl, hpc, _⟩ := hP
    obtain ⟨ln, hln⟩ : ∃ ln, ln = L.length := ⟨_, rfl⟩
    obtain ⟨pn, hpn⟩ : ∃ pn, pn = P.length := ⟨_, rfl⟩
    have hL0 : Lvs w (.slice lad L.length lc) L := ⟨lad, lg, lo, lc, rfl, hlc, hlcc⟩
    have hw0 := htab.lt
    by_cases h1 : m = 1
    · subst h1
      have ha : a < L.length := by omega
      obtain ⟨rfl, hg, hok, hr⟩ := hlc a ha
      have hget : L.getD a Lf.zero = L[a] := by rw [List.getD_eq_getElem?_getD, List.getElem?_eq_getElem ha]; rfl
      obtain ⟨hnm0, hnm1⟩ := hF.nms _ (List.getElem_mem ha)
      rw [Tt.hashSeg_one, hget]
      have HPL := Lib.hid (fun (w0 : World) (base b : Nat) (u : World) (hU : Pu w0 base b [] u) => putleaf_calls w0 base b [] L[a] hok hnm0 hnm1 u hU (Nat.zero_le _))
      have hlen := Tt.leafText_length hok
      obtain ⟨ct, hct⟩ : ∃ ct, ct = L[a].cells := ⟨_, rfl⟩
      rw [← hct] at HPL hr
      obtain ⟨lt, hlt⟩ : ∃ lt, lt = Tt.leafText L[a] := ⟨_, rfl⟩
      rw [← hlt] at HPL hlen ⊢
      have HSP := Lib.hid (fun (blk : Nat) (u : World) (s : ByteArray) (hs : s = str lt) h => sum_pair Tt.leafB lt blk u ⟨#[108, 101, 97, 102]⟩ s rfl hs h (by show 4 + _ ≤ _; omega))
      have hcs : (bcells (Sm.sum (Tt.leafB ++ lt))).toArray.size = 32 := by rw [List.size_toArray, bcells_length, sum_len32]
      have hall := bcells_all (Sm.sum (Tt.leafB ++ lt))
      obtain ⟨cu, hcu⟩ : ∃ cu, cu = (bcells (Sm.sum (Tt.leafB ++ lt))).toArray := ⟨_, rfl⟩
      rw [← hcu] at HSP hcs hall ⊢
      have HCS := Lib.hid hcs
      have HALL := Lib.hid hall
      have hal : (a : Int) < (ln : Int) := by omega
      have ha0 : ¬ (a : Int) < 0 := by omega
      obtain ⟨x, hx⟩ : ∃ x : Int, x = ((Bo.root a 1 : Nat) : Int) := ⟨_, rfl⟩
      have hx2 : x = 2 * (a : Int) := by rw [hx, Bo.root_one]; omega
      rw [← hx]
      have HQU := Lib.hid (show IntKind.i64.wrap (x.tdiv 2) = (a : Int) by rw [show x.tdiv 2 = (a : Int) by rw [hx2, Int.tdiv_eq_ediv_of_nonneg (by omega)]; omega, wrap_small _ (by omega) (by omega)])
      have hxm : x.tmod 2 = 0 := by rw [hx2, Int.tmod_eq_emod_of_nonneg (by omega)]; omega
      have HIL := Lib.hid (fun u => isleaf_yes x (by rw [hxm]; rfl) hxm u)
      have HINF := Lib.hid (show (Tryz.prog.info? 48).map (·.size) = some ct.length by have := leafInfo (Lf.size hok); rw [hct]; simpa using this)
      have HG := Lib.hid hg
      have HR := Lib.hid hr
      rw [← hln, ← hpn]
      clear ih hmk hseg hm1 ham hlc hL0 hP0 hpc hget hnm0 hnm1 hok hlen hct hlt hcs hall hcu hx hx2 hxm hg hr hln hpn ha h64 hn hn1 hF hlcc
      have k1 := (Kept.refl w.heap.size w.heap.size w).alloc (Nat.le_refl _) (.cells #[.slice (some ⟨lg, lo, none⟩) ln lc, .slice pad pn pc] 27)
      have t1 := heap_new w (.cells #[.slice (some ⟨lg, lo, none⟩) ln lc, .slice pad pn pc] 27)
      have s1 : (w.alloc (.cells #[.slice (some ⟨lg, lo, none⟩) ln lc, .slice pad pn pc] 27)).heap.size = w.heap.size + 1 := by simp
      go_enter Tryz.func55, Tryz.ntmps55
      go_upto_region 1 with fail
      rw [zeros32_eq]
      generalize w.alloc (.cells #[.slice (some ⟨lg, lo, none⟩) ln lc, .slice pad pn pc] 27) = wa at k1 t1 s1 ⊢
      have k2 := (Kept.refl wa.heap.size wa.heap.size wa).alloc (Nat.le_refl _) (.cells zeros32 39)
      have r2 := heap_new wa (.cells zeros32 39)
      have t2 := (k2.block _ (lt_of_block t1) (Nat.ne_of_lt (lt_of_block t1))).trans t1
      generalize wa.alloc (.cells zeros32 39) = w1 at k2 r2 t2 ⊢
      have k12 := k1.next1 k2
      rw [s1] at r2
      (try rw [s1])
      obtain ⟨tb, htb⟩ : ∃ tb, tb = w.heap.size := ⟨_, rfl⟩
      obtain ⟨rb, hrb⟩ : ∃ rb, rb = w.heap.size + 1 := ⟨_, rfl⟩
      rw [← hrb] at r2
      (try rw [← hrb])
      rw [← htb] at t2
      (try rw [← htb])
      have HRB := Lib.hid (show ¬ rb < w.heap.size by omega)
      have HTB1 := Lib.hid (lt_of_block t2)
      have HRB1 := Lib.hid (lt_of_block r2)
      have HW01 := Lib.hid (show 0 < w1.heap.size from Nat.lt_of_lt_of_le hw0 k12.size)
      have HWS := Lib.hid k12.size
      have HTAB := Lib.hid (htab.kept k12 hw0 hw0)
      have T1 := Lib.hid t2
      have R1 := Lib.hid r2
      have K1 := Lib.hid k12
      clear k1 t1 s1 k2 r2 t2 k12 htb hrb hw0 htab
      refine wp_region_lit ?_
      refine @BigFrame.wpList_want _ _ _ _ _ _ _ ?hw53001 ?_
      case hw53001 => kernel_rfl
      intro K hK
      go_simp
      go_at_call 59
      refine (new_calls w1).mono ?_
      rintro e w2 ⟨rfl, wr2, k2, s2⟩
      refine hK _ _ ?_
      clear hK K
      obtain ⟨wb, hwb⟩ : ∃ wb, wb = w1.heap.size := ⟨_, rfl⟩
      have tab2 := HTAB.out.kept k2 HW01.out HW01.out
      have U2 := Lib.hid (Pu.start (base := w1.heap.size + 1) (b := w1.heap.size) (s := []) wr2 tab2 HW01.out)
      have K2 := Lib.hid (K1.out.next1 k2)
      have T2 := Lib.hid ((k2.block tb (lt_of_block T1.out) (Nat.ne_of_lt (lt_of_block T1.out))).trans T1.out)
      have R2 := Lib.hid ((k2.block rb (lt_of_block R1.out) (Nat.ne_of_lt (lt_of_block R1.out))).trans R1.out)
      obtain ⟨base, hbase⟩ : ∃ base, base = w1.heap.size + 1 := ⟨_, rfl⟩
      have HBT := Lib.hid (show tb < base ∧ tb ≠ wb by have := HTB1.out; omega)
      have HBR := Lib.hid (show rb < base ∧ rb ≠ wb by have := HRB1.out; omega)
      have HBW := Lib.hid (show ∀ g, g < w.heap.size → g < base ∧ g ≠ wb from fun g hg => by have := HWS.out; omega)
      rw [← hwb] at U2 hbase
      rw [← hbase] at U2
      rw [← hwb]
      have HTT := Lib.hid (fun (t : List UInt8) (x : World) (u : Pu w2 base wb t x) => (u.kp.block tb HBT.out.1 HBT.out.2).trans T2.out)
      have HRR := Lib.hid (fun (t : List UInt8) (x : World) (u : Pu w2 base wb t x) => (u.kp.block rb HBR.out.1 HBR.out.2).trans R2.out)
      have HKW := Lib.hid (fun (t : List UInt8) (x : World) (u : Pu w2 base wb t x) => (show Kept w.heap.size w.heap.size w x from K2.out.trans (u.kp.mono (by have := HBT.out; have := HWS.out; omega) (fun i hi _ => (HBW.out i hi).2))))
      clear wr2 k2 s2 tab2 hwb hbase T1 R1 K1 HTAB HW01 HTB1 HRB1
      refine @BigFrame.wpList_want _ _ _ _ _ _ _ ?hw53002 ?_
      case hw53002 => kernel_rfl
      intro K hK
      go_simp
      refine hK _ _ ?_
      clear hK K
      go_upto_region 2 with fail
      refine wp_region_lit ?_
      refine @BigFrame.wpList_want _ _ _ _ _ _ _ ?hw53004 ?_
      case hw53004 => kernel_rfl
      intro K hK
      go_simp
      refine hK _ _ ?_
      clear hK K
      refine @BigFrame.wpList_want _ _ _ _ _ _ _ ?hw53003 ?_
      case hw53003 => kernel_rfl
      intro K hK
      go_simp
      go_at_call 51
      refine (HIL.out _).mono ?_
      rintro e wx ⟨rfl, hwx⟩
      subst wx
      refine hK _ _ ?_
      clear hK K
      have t0 := two_cell0 (HTT.out _ _ U2.out)
      have HLD := Lib.hid (run_loadVar_mid w2 lg (lo + a * 97) 48 ct _ (rangeAt_kept (HKW.out _ _ U2.out) HR.out HG.out (Nat.ne_of_lt HG.out)) Tryz.underlying48 rfl HINF.out)
      go_upto_region 3 with fail
      refine wp_region_lit ?_
      refine @BigFrame.wpList_want _ _ _ _ _ _ _ ?hw53005 ?_
      case hw53005 => kernel_rfl
      intro K hK
      go_simp
      refine hK _ _ ?_
      clear hK K
      refine @BigFrame.wpList_want _ _ _ _ _ _ _ ?hw53006 ?_
      case hw53006 => kernel_rfl
      intro K hK
      go_simp
      refine hK _ _ ?_
      clear hK K
      refine @BigFrame.wpList_want _ _ _ _ _ _ _ ?hw53007 ?_
      case hw53007 => kernel_rfl
      intro K hK
      go_simp
      refine hK _ _ ?_
      clear hK K
      refine @BigFrame.wpList_want _ _ _ _ _ _ _ ?hw53008 ?_
      case hw53008 => kernel_rfl
      intro K hK
      go_simp
      refine hK _ _ ?_
      clear hK K
      refine @BigFrame.wpList_want _ _ _ _ _ _ _ ?hw53009 ?_
      case hw53009 => kernel_rfl
      intro K hK
      go_simp
      refine hK _ _ ?_
      clear hK K
      rw [HQU.out]
      refine @BigFrame.wpList_want _ _ _ _ _ _ _ ?hw53010 ?_
      case hw53010 => kernel_rfl
      intro K hK
      go_simp
      refine hK _ _ ?_
      clear hK K
      refine @wpList_load_known _ _ _ _ _ _ _ ?hw53011 48 (.tmp 15) rfl (lg) (lo + a * 97) rfl (.agg ct.toArray) (HLD.out) ?_
      case hw53011 => kernel_rfl
      simp only [Act.put, List.setIfInBounds_toArray, List.set_cons_zero, List.set_cons_succ]
      refine @BigFrame.wpList_want _ _ _ _ _ _ _ ?hw53012 ?_
      case hw53012 => kernel_rfl
      intro K hK
      go_simp
      go_at_call 61
      refine (HPL.out _ _ _ _ U2.out).mono ?_
      rintro e w4 ⟨rfl, u4⟩
      refine hK _ _ ?_
      clear hK K
      rw [List.nil_append] at u4
      have U4 := Lib.hid u4
      clear u4 t0
      obtain ⟨ss, hss⟩ : ∃ ss, ss = str lt := ⟨_, rfl⟩
      have HWT := Lib.hid (written_calls base wb lt w4 U4.out.wr)
      rw [← hss] at HWT
      have HSS := Lib.hid hss
      clear hss
      go_upto_region 4 with fail
      refine wp_region_lit ?_
      refine @BigFrame.wpList_want _ _ _ _ _ _ _ ?hw53013 ?_
      case hw53013 => kernel_rfl
      intro K hK
      go_simp
      refine hK _ _ ?_
      clear hK K
      refine @BigFrame.wpList_want _ _ _ _ _ _ _ ?hw53014 ?_
      case hw53014 => kernel_rfl
      intro K hK
      go_simp
      go_at_call 63
      refine (HWT.out).mono ?_
      rintro e wx ⟨rfl, hwx⟩
      subst wx
      refine hK _ _ ?_
      clear hK K
      refine @BigFrame.wpList_want _ _ _ _ _ _ _ ?hw53015 ?_
      case hw53015 => kernel_rfl
      intro K hK
      go_simp
      refine hK _ _ ?_
      clear hK K
      refine @BigFrame.wpList_want _ _ _ _ _ _ _ ?hw53016 ?_
      case hw53016 => kernel_rfl
      intro K hK
      go_simp
      go_at_call 54
      refine (HSP.out _ _ ss HSS.out (heap_new w4 _)).mono ?_
      rintro e w6 ⟨rfl, k6⟩
      refine hK _ _ ?_
      clear hK K
      have u6 := (U4.out.kept ((Kept.refl w4.heap.size w4.heap.size w4).alloc (Nat.le_refl _) _)).kept k6
      have R6 := Lib.hid (HRR.out _ _ u6)
      have K6 := Lib.hid (HKW.out _ _ u6)
      clear u6 k6
      refine wpList_store_row rfl 39 _ _ rfl (rb) cu rfl rfl 39 zeros32 R6.out (info30 HCS.out) (by rw [HCS.out]; rfl) HALL.out ?_
      simp only [Act.put]
      have R7 := setRow_heap w6 rb _ cu _ _ R6.out
      have K7 := Lib.hid (K6.out.grown (grown_setRow w6 rb cu) K6.out.size (fun k e => by cases e; exact Nat.le_of_not_lt HRB.out))
      generalize w6.setRow rb cu = w7 at R7 K7 ⊢
      go_wp2
      refine bodyPost_ret (results_cell_row rfl _ _ rb 39 _ (0, 0) _ rfl R7 Tryz.underlying39 rfl (info30 HCS.out)) rfl ?_
      exact ⟨rfl, K7.out⟩
    · have h2 : 2 ≤ m := by omega
      have hh1 := Bo.half_pos m
      have hh2 := Bo.half_lt h2
      have hrt := Bo.root_two (a := a) h2
      obtain ⟨j, hj⟩ : ∃ j, j = Bo.root a m / 2 := ⟨_, rfl⟩
      have hxj : Bo.root a m = 2 * j + 1 := by omega
      have hjP : j < P.length := by rw [hF.par]; omega
      obtain ⟨rfl, hg, hok, sl, hr, hnums⟩ := hpc j hjP
      have hget : P.getD (Bo.root a m / 2) Pr.zero = P[j] := by rw [← hj, List.getD_eq_getElem?_getD, List.getElem?_eq_getElem hjP]; rfl
      have hlse := hF.lse _ (List.getElem_mem hjP)
      have hl9 := hF.len _ (List.getElem_mem hjP)
      obtain ⟨k', hk'⟩ : ∃ k', k = k' + 1 := ⟨k - 1, by omega⟩
      have hs1 : (Tt.hashSeg L P k a (Bo.half m)).length = 32 := by rw [hk']; exact hashSeg_len L P k' _ _
      have hs2 : (Tt.hashSeg L P k (a + Bo.half m) (m - Bo.half m)).length = 32 := by rw [hk']; exact hashSeg_len L P k' _ _
      have eside := (Bo.say_sides (hseg.inn hn1) h64 (hseg.part hn1 h64)).2 h1
      have HLE := Lib.hid (fun u => left_calls_of lenIs (n : Int) ((Bo.root a m : Nat) : Int) u)
      have HRI := Lib.hid (fun u => right_calls_of lenIs (n : Int) ((Bo.root a m : Nat) : Int) u)
      rw [eside.1] at HLE
      rw [eside.2] at HRI
      have HH1 := Lib.hid (fun (u : World) (ht : Tab u) (kk : Kept w.heap.size w.heap.size w u) => ih a (Bo.half m) _ _ (by omega) (hseg.left h2) _ _ u ht (hL0.kept kk) (hP0.kept kk))
      have HH2 := Lib.hid (fun (u : World) (ht : Tab u) (kk : Kept w.heap.size w.heap.size w u) => ih (a + Bo.half m) (m - Bo.half m) _ _ (by omega) (hseg.right h2) _ _ u ht (hL0.kept kk) (hP0.kept kk))
      rw [Tt.hashSeg_two L P k a m h2, hget]
      have hplen := Tt.parentText_length hok hl9
      have HPT := Lib.hid (fun (w0 : World) (base b : Nat) (u : World) (hU : Pu w0 base b [] u) (kk : Kept w.heap.size w.heap.size w w0) (hbw : ∀ g, g < w.heap.size → g < base ∧ g ≠ b) => putparent_calls w0 base b [] P[j] hok sl u hU (Nat.zero_le _) (hnums.kept kk) (fun i g o he h0 => by
        obtain ⟨sad, sc, ng, no, hsl, hnc⟩ := hnums
        obtain ⟨e1, e2, _⟩ := hnc 0 h0
        rw [hsl, e1] at he
        injection he with he _ _
        injection he with he
        injection he with he _ _
        rw [← he]
        exact hbw ng e2) hl9 hlse)
      have HINF := Lib.hid (show (Tryz.prog.info? 75).map (·.size) = some (P[j].cells sl).length by have := parentInfo (Pr.size hok sl); simpa using this)
      obtain ⟨h1x, hh1x⟩ : ∃ y, y = Tt.hashSeg L P k a (Bo.half m) := ⟨_, rfl⟩
      obtain ⟨h2x, hh2x⟩ : ∃ y, y = Tt.hashSeg L P k (a + Bo.half m) (m - Bo.half m) := ⟨_, rfl⟩
      rw [← hh1x] at HH1 hs1 ⊢
      rw [← hh2x] at HH2 hs2 ⊢
      obtain ⟨ct, hct⟩ : ∃ ct, ct = P[j].cells sl := ⟨_, rfl⟩
      rw [← hct] at HPT hr HINF
      obtain ⟨pt, hpt⟩ : ∃ pt, pt = Tt.parentText P[j] := ⟨_, rfl⟩
      rw [← hpt] at HPT hplen ⊢
      have HU1 := Lib.hid (fun (w0 : World) (base b : Nat) (s : List UInt8) (u : World) (hU : Pu w0 base b s u) (hs : s.length ≤ 100000) => hU.hash h1x hs1 hs)
      have HU2 := Lib.hid (fun (w0 : World) (base b : Nat) (s : List UInt8) (u : World) (hU : Pu w0 base b s u) (hs : s.length ≤ 100000) => hU.hash h2x hs2 hs)
      have HSP := Lib.hid (fun (blk : Nat) (u : World) (s : ByteArray) (hs : s = str (pt ++ h1x ++ h2x)) h => sum_pair Tt.nodeB (pt ++ h1x ++ h2x) blk u ⟨#[110, 111, 100, 101]⟩ s rfl hs h (by simp only [List.length_append, hs1, hs2]; show 4 + _ ≤ _; omega))
      have hcat : Tt.nodeB ++ (pt ++ h1x ++ h2x) = Tt.nodeB ++ pt ++ h1x ++ h2x := by simp only [List.append_assoc]
      rw [hcat] at HSP
      have hcs : (bcells (Sm.sum (Tt.nodeB ++ pt ++ h1x ++ h2x))).toArray.size = 32 := by rw [List.size_toArray, bcells_length, sum_len32]
      have hall := bcells_all (Sm.sum (Tt.nodeB ++ pt ++ h1x ++ h2x))
      obtain ⟨cu, hcu⟩ : ∃ cu, cu = (bcells (Sm.sum (Tt.nodeB ++ pt ++ h1x ++ h2x))).toArray := ⟨_, rfl⟩
      rw [← hcu] at HSP hcs hall ⊢
      have HCS := Lib.hid hcs
      have HALL := Lib.hid hall
      obtain ⟨d1, hd1⟩ : ∃ d, d = (bcells h1x).toArray := ⟨_, rfl⟩
      obtain ⟨d2, hd2⟩ : ∃ d, d = (bcells h2x).toArray := ⟨_, rfl⟩
      rw [← hd1] at HH1 HU1
      rw [← hd2] at HH2 HU2
      have HPL9 := Lib.hid (show pt.length ≤ 10000 ∧ h1x.length = 32 ∧ h2x.length = 32 from ⟨hplen, hs1, hs2⟩)
      obtain ⟨y1, hy1⟩ : ∃ y : Int, y = ((Bo.root a (Bo.half m) : Nat) : Int) := ⟨_, rfl⟩
      obtain ⟨y2, hy2⟩ : ∃ y : Int, y = ((Bo.root (a + Bo.half m) (m - Bo.half m) : Nat) : Int) := ⟨_, rfl⟩
      rw [← hy1] at HLE HH1
      rw [← hy2] at HRI HH2
      obtain ⟨x, hx⟩ : ∃ x : Int, x = ((Bo.root a m : Nat) : Int) := ⟨_, rfl⟩
      rw [← hx] at HLE HRI ⊢
      have hx2 : x = 2 * (j : Int) + 1 := by rw [hx, hxj]; omega
      have HQU := Lib.hid (show IntKind.i64.wrap (x.tdiv 2) = (j : Int) by rw [show x.tdiv 2 = (j : Int) by rw [hx2, Int.tdiv_eq_ediv_of_nonneg (by omega)]; omega, wrap_small _ (by omega) (by omega)])
      have hxm : x.tmod 2 = 1 := by rw [hx2, Int.tmod_eq_emod_of_nonneg (by omega)]; omega
      have HIL := Lib.hid (fun u => isleaf_no x (by rw [hxm]; rfl) hxm u)
      have hjl : (j : Int) < (pn : Int) := by omega
      have hj0 : ¬ (j : Int) < 0 := by omega
      have hnl : n = ln := by omega
      rw [hnl] at HLE HRI
      rw [← hln, ← hpn] at HH1 HH2
      have HG := Lib.hid hg
      have HR := Lib.hid hr
      rw [← hln, ← hpn]
      clear ih hmk hseg hm1 ham hlc hL0 hP0 hpc hget hok hlse hl9 hs1 hs2 eside hplen hct hpt hcs hall hcu hcat hd1 hd2 hy1 hy2 hx hx2 hxm hg hr hnums hh1 hh2 hrt hj hxj hjP hh1x hh2x hk' h1 h2 hpn hln h64 hnl hn hn1 hF hlcc
      have k1 := (Kept.refl w.heap.size w.heap.size w).alloc (Nat.le_refl _) (.cells #[.slice lad ln lc, .slice (some ⟨pg, po, none⟩) pn pc] 27)
      have t1 := heap_new w (.cells #[.slice lad ln lc, .slice (some ⟨pg, po, none⟩) pn pc] 27)
      have s1 : (w.alloc (.cells #[.slice lad ln lc, .slice (some ⟨pg, po, none⟩) pn pc] 27)).heap.size = w.heap.size + 1 := by simp
      go_enter Tryz.func55, Tryz.ntmps55
      go_upto_region 1 with fail
      rw [zeros32_eq]
      generalize w.alloc (.cells #[.slice lad ln lc, .slice (some ⟨pg, po, none⟩) pn pc] 27) = wa at k1 t1 s1 ⊢
      have k2 := (Kept.refl wa.heap.size wa.heap.size wa).alloc (Nat.le_refl _) (.cells zeros32 39)
      have r2 := heap_new wa (.cells zeros32 39)
      have t2 := (k2.block _ (lt_of_block t1) (Nat.ne_of_lt (lt_of_block t1))).trans t1
      generalize wa.alloc (.cells zeros32 39) = w1 at k2 r2 t2 ⊢
      have k12 := k1.next1 k2
      rw [s1] at r2
      (try rw [s1])
      obtain ⟨tb, htb⟩ : ∃ tb, tb = w.heap.size := ⟨_, rfl⟩
      obtain ⟨rb, hrb⟩ : ∃ rb, rb = w.heap.size + 1 := ⟨_, rfl⟩
      rw [← hrb] at r2
      (try rw [← hrb])
      rw [← htb] at t2
      (try rw [← htb])
      have HRB := Lib.hid (show ¬ rb < w.heap.size by omega)
      have HTB1 := Lib.hid (lt_of_block t2)
      have HRB1 := Lib.hid (lt_of_block r2)
      have HW01 := Lib.hid (show 0 < w1.heap.size from Nat.lt_of_lt_of_le hw0 k12.size)
      have HWS := Lib.hid k12.size
      have HTAB := Lib.hid (htab.kept k12 hw0 hw0)
      have T1 := Lib.hid t2
      have R1 := Lib.hid r2
      have K1 := Lib.hid k12
      clear k1 t1 s1 k2 r2 t2 k12 htb hrb hw0 htab
      refine wp_region_lit ?_
      refine @BigFrame.wpList_want _ _ _ _ _ _ _ ?hw53017 ?_
      case hw53017 => kernel_rfl
      intro K hK
      go_simp
      go_at_call 59
      refine (new_calls w1).mono ?_
      rintro e w2 ⟨rfl, wr2, k2, s2⟩
      refine hK _ _ ?_
      clear hK K
      obtain ⟨wb, hwb⟩ : ∃ wb, wb = w1.heap.size := ⟨_, rfl⟩
      have tab2 := HTAB.out.kept k2 HW01.out HW01.out
      have U2 := Lib.hid (Pu.start (base := w1.heap.size + 1) (b := w1.heap.size) (s := []) wr2 tab2 HW01.out)
      have K2 := Lib.hid (K1.out.next1 k2)
      have T2 := Lib.hid ((k2.block tb (lt_of_block T1.out) (Nat.ne_of_lt (lt_of_block T1.out))).trans T1.out)
      have R2 := Lib.hid ((k2.block rb (lt_of_block R1.out) (Nat.ne_of_lt (lt_of_block R1.out))).trans R1.out)
      obtain ⟨base, hbase⟩ : ∃ base, base = w1.heap.size + 1 := ⟨_, rfl⟩
      have HBT := Lib.hid (show tb < base ∧ tb ≠ wb by have := HTB1.out; omega)
      have HBR := Lib.hid (show rb < base ∧ rb ≠ wb by have := HRB1.out; omega)
      have HBW := Lib.hid (show ∀ g, g < w.heap.size → g < base ∧ g ≠ wb from fun g hg => by have := HWS.out; omega)
      rw [← hwb] at U2 hbase
      rw [← hbase] at U2
      rw [← hwb]
      have HTT := Lib.hid (fun (t : List UInt8) (x : World) (u : Pu w2 base wb t x) => (u.kp.block tb HBT.out.1 HBT.out.2).trans T2.out)
      have HRR := Lib.hid (fun (t : List UInt8) (x : World) (u : Pu w2 base wb t x) => (u.kp.block rb HBR.out.1 HBR.out.2).trans R2.out)
      have HKW := Lib.hid (fun (t : List UInt8) (x : World) (u : Pu w2 base wb t x) => (show Kept w.heap.size w.heap.size w x from K2.out.trans (u.kp.mono (by have := HBT.out; have := HWS.out; omega) (fun i hi _ => (HBW.out i hi).2))))
      clear wr2 k2 s2 tab2 hwb hbase T1 R1 K1 HTAB HW01 HTB1 HRB1
      refine @BigFrame.wpList_want _ _ _ _ _ _ _ ?hw53018 ?_
      case hw53018 => kernel_rfl
      intro K hK
      go_simp
      refine hK _ _ ?_
      clear hK K
      go_upto_region 2 with fail
      refine wp_region_lit ?_
      refine @BigFrame.wpList_want _ _ _ _ _ _ _ ?hw53020 ?_
      case hw53020 => kernel_rfl
      intro K hK
      go_simp
      refine hK _ _ ?_
      clear hK K
      refine @BigFrame.wpList_want _ _ _ _ _ _ _ ?hw53019 ?_
      case hw53019 => kernel_rfl
      intro K hK
      go_simp
      go_at_call 51
      refine (HIL.out _).mono ?_
      rintro e wx ⟨rfl, hwx⟩
      subst wx
      refine hK _ _ ?_
      clear hK K
      have t0 := two_cell0 (HTT.out _ _ U2.out)
      have t1 := two_cell1 (HTT.out _ _ U2.out)
      have HLD := Lib.hid (run_loadVar_mid w2 pg (po + j * 66) 75 ct _ (rangeAt_kept (HKW.out _ _ U2.out) HR.out HG.out (Nat.ne_of_lt HG.out)) Tryz.underlying75 rfl HINF.out)
      go_upto_region 5 with fail
      refine wp_region_lit ?_
      refine @BigFrame.wpList_want _ _ _ _ _ _ _ ?hw53021 ?_
      case hw53021 => kernel_rfl
      intro K hK
      go_simp
      refine hK _ _ ?_
      clear hK K
      refine @BigFrame.wpList_want _ _ _ _ _ _ _ ?hw53022 ?_
      case hw53022 => kernel_rfl
      intro K hK
      go_simp
      refine hK _ _ ?_
      clear hK K
      refine @BigFrame.wpList_want _ _ _ _ _ _ _ ?hw53023 ?_
      case hw53023 => kernel_rfl
      intro K hK
      go_simp
      refine hK _ _ ?_
      clear hK K
      refine @BigFrame.wpList_want _ _ _ _ _ _ _ ?hw53024 ?_
      case hw53024 => kernel_rfl
      intro K hK
      go_simp
      refine hK _ _ ?_
      clear hK K
      go_upto_region 6 with fail
      refine wp_region_lit ?_
      refine @BigFrame.wpList_want _ _ _ _ _ _ _ ?hw53025 ?_
      case hw53025 => kernel_rfl
      intro K hK
      go_simp
      refine hK _ _ ?_
      clear hK K
      refine @BigFrame.wpList_want _ _ _ _ _ _ _ ?hw53026 ?_
      case hw53026 => kernel_rfl
      intro K hK
      go_simp
      refine hK _ _ ?_
      clear hK K
      refine @BigFrame.wpList_want _ _ _ _ _ _ _ ?hw53027 ?_
      case hw53027 => kernel_rfl
      intro K hK
      go_simp
      refine hK _ _ ?_
      clear hK K
      refine @BigFrame.wpList_want _ _ _ _ _ _ _ ?hw53028 ?_
      case hw53028 => kernel_rfl
      intro K hK
      go_simp
      refine hK _ _ ?_
      clear hK K
      refine @BigFrame.wpList_want _ _ _ _ _ _ _ ?hw53029 ?_
      case hw53029 => kernel_rfl
      intro K hK
      go_simp
      refine hK _ _ ?_
      clear hK K
      rw [HQU.out]
      refine @BigFrame.wpList_want _ _ _ _ _ _ _ ?hw53030 ?_
      case hw53030 => kernel_rfl
      intro K hK
      go_simp
      refine hK _ _ ?_
      clear hK K
      refine @wpList_load_known _ _ _ _ _ _ _ ?hw53031 75 (.tmp 30) rfl (pg) (po + j * 66) rfl (.agg ct.toArray) (HLD.out) ?_
      case hw53031 => kernel_rfl
      simp only [Act.put, List.setIfInBounds_toArray, List.set_cons_zero, List.set_cons_succ]
      refine @BigFrame.wpList_want _ _ _ _ _ _ _ ?hw53032 ?_
      case hw53032 => kernel_rfl
      intro K hK
      go_simp
      go_at_call 62
      refine (HPT.out _ _ _ _ U2.out K2.out HBW.out).mono ?_
      rintro e w4 ⟨rfl, u4⟩
      refine hK _ _ ?_
      clear hK K
      rw [List.nil_append] at u4
      have U4 := Lib.hid u4
      clear u4 t0 t1
      have HLT := Lib.hid (fun (u : World) (h : ∃ s, Pu w2 base wb s u) => run_loadVar_row u tb 27 27 _ (0, 0) _ (HTT.out _ _ h.choose_spec) Tryz.underlying27 rfl treeInfo)
      go_upto_region 7 with fail
      have V0 := Lib.hid (U4.out.kept ((Kept.refl w4.heap.size w4.heap.size w4).drew))
      refine wp_region_noPanic ?_
      refine wp_region_held_drew (S := fun w' => ∃ s, Pu w2 base wb s w') (by kernel_rfl) (⟨_, V0.out⟩) (fun hH => ?_)
      refine wpAnyH_take_ex (i := 0) 33 rfl rfl (by kernel_rfl) (by kernel_rfl) (by kernel_rfl) (fun _ _ _ _ h => h) (by kernel_rfl) hH ?_
      apply Exists.intro
      apply And.intro
      · intro w9 _
        go_simp
        first | done | rfl
      simp only [List.setIfInBounds_toArray, List.set_cons_zero, List.set_cons_succ]
      refine wpAnyH_take_at (i := 1) 34 (.agg #[.slice lad ln lc, .slice (some ⟨pg, po, none⟩) pn pc]) rfl rfl (by kernel_rfl) (by kernel_rfl) (by kernel_rfl) (fun _ _ _ h => h) (yieldsIf_load_known (by kernel_rfl) 27 _ rfl (tb) (0) rfl (.agg #[.slice lad ln lc, .slice (some ⟨pg, po, none⟩) pn pc]) (HLT.out)) hH ?_
      simp only [List.setIfInBounds_toArray, List.set_cons_zero, List.set_cons_succ]
      refine wpAnyH_take_ex (i := 2) 35 rfl rfl (by kernel_rfl) (by kernel_rfl) (by kernel_rfl) (fun _ _ _ _ h => h) (by kernel_rfl) hH ?_
      apply Exists.intro
      apply And.intro
      · intro w9 _
        go_simp
        first | done | rfl
      simp only [List.setIfInBounds_toArray, List.set_cons_zero, List.set_cons_succ]
      refine wpAnyH_take_ex (i := 3) 36 rfl rfl (by kernel_rfl) (by kernel_rfl) (by kernel_rfl) (fun _ _ _ _ h => h) (by kernel_rfl) hH ?_
      apply Exists.intro
      apply And.intro
      · intro w9 _
        go_simp
        first | done | rfl
      simp only [List.setIfInBounds_toArray, List.set_cons_zero, List.set_cons_succ]
      refine wpAnyH_ready (rs := [4]) (by kernel_rfl) (by simp) ?_
      refine AllReadyH.cons rfl (fun K hK => ?_) AllReadyH.nil
      rw [if_pos (by rfl)]
      go_simp
      go_wp2_with (go_at_call 52; refine (HLE.out _).mono ?_; rintro e wl ⟨rfl, kl⟩)
      have V1 := Lib.hid (V0.out.kept kl)
      clear kl V0
      refine hK.out _ _ ⟨_, V1.out⟩ (fun hH => ?_)
      clear hK K
      refine wpAnyH_ready (rs := [5]) (by kernel_rfl) (by simp) ?_
      refine AllReadyH.cons rfl (fun K hK => ?_) AllReadyH.nil
      rw [if_pos (by rfl)]
      go_simp
      go_wp2_with (go_at_call 55; refine (HH1.out _ V1.out.tab (HKW.out _ _ V1.out)).mono ?_; rintro e wm ⟨rfl, km⟩)
      have V2 := Lib.hid (V1.out.kept km)
      clear km V1
      refine hK.out _ _ ⟨_, V2.out⟩ (fun hH => ?_)
      clear hK K
      refine wpAnyH_ready (rs := [6]) (by kernel_rfl) (by simp) ?_
      refine AllReadyH.cons rfl (fun K hK => ?_) AllReadyH.nil
      rw [if_pos (by rfl)]
      go_simp
      go_wp2_with (go_at_call 97; refine (HU1.out _ _ _ _ _ V2.out (by have := HPL9.out; first | omega | (simp only [List.length_append]; omega))).mono ?_; rintro e w5 ⟨rfl, un⟩)
      have U5 := Lib.hid un
      clear un V2
      refine hK.out _ _ ⟨_, U5.out⟩ (fun hH => ?_)
      clear hK K
      refine wpAnyH_done (by kernel_rfl) ?_ _
      refine NoPanic.normal ?_
      clear hH
      go_upto_region 8 with fail
      have V0 := Lib.hid (U5.out.kept ((Kept.refl w5.heap.size w5.heap.size w5).drew))
      refine wp_region_noPanic ?_
      refine wp_region_held_drew (S := fun w' => ∃ s, Pu w2 base wb s w') (by kernel_rfl) (⟨_, V0.out⟩) (fun hH => ?_)
      refine wpAnyH_take_ex (i := 0) 40 rfl rfl (by kernel_rfl) (by kernel_rfl) (by kernel_rfl) (fun _ _ _ _ h => h) (by kernel_rfl) hH ?_
      apply Exists.intro
      apply And.intro
      · intro w9 _
        go_simp
        first | done | rfl
      simp only [List.setIfInBounds_toArray, List.set_cons_zero, List.set_cons_succ]
      refine wpAnyH_take_at (i := 1) 41 (.agg #[.slice lad ln lc, .slice (some ⟨pg, po, none⟩) pn pc]) rfl rfl (by kernel_rfl) (by kernel_rfl) (by kernel_rfl) (fun _ _ _ h => h) (yieldsIf_load_known (by kernel_rfl) 27 _ rfl (tb) (0) rfl (.agg #[.slice lad ln lc, .slice (some ⟨pg, po, none⟩) pn pc]) (HLT.out)) hH ?_
      simp only [List.setIfInBounds_toArray, List.set_cons_zero, List.set_cons_succ]
      refine wpAnyH_take_ex (i := 2) 42 rfl rfl (by kernel_rfl) (by kernel_rfl) (by kernel_rfl) (fun _ _ _ _ h => h) (by kernel_rfl) hH ?_
      apply Exists.intro
      apply And.intro
      · intro w9 _
        go_simp
        first | done | rfl
      simp only [List.setIfInBounds_toArray, List.set_cons_zero, List.set_cons_succ]
      refine wpAnyH_take_ex (i := 3) 43 rfl rfl (by kernel_rfl) (by kernel_rfl) (by kernel_rfl) (fun _ _ _ _ h => h) (by kernel_rfl) hH ?_
      apply Exists.intro
      apply And.intro
      · intro w9 _
        go_simp
        first | done | rfl
      simp only [List.setIfInBounds_toArray, List.set_cons_zero, List.set_cons_succ]
      refine wpAnyH_ready (rs := [4]) (by kernel_rfl) (by simp) ?_
      refine AllReadyH.cons rfl (fun K hK => ?_) AllReadyH.nil
      rw [if_pos (by rfl)]
      go_simp
      go_wp2_with (go_at_call 53; refine (HRI.out _).mono ?_; rintro e wl ⟨rfl, kl⟩)
      have V1 := Lib.hid (V0.out.kept kl)
      clear kl V0
      refine hK.out _ _ ⟨_, V1.out⟩ (fun hH => ?_)
      clear hK K
      refine wpAnyH_ready (rs := [5]) (by kernel_rfl) (by simp) ?_
      refine AllReadyH.cons rfl (fun K hK => ?_) AllReadyH.nil
      rw [if_pos (by rfl)]
      go_simp
      go_wp2_with (go_at_call 55; refine (HH2.out _ V1.out.tab (HKW.out _ _ V1.out)).mono ?_; rintro e wm ⟨rfl, km⟩)
      have V2 := Lib.hid (V1.out.kept km)
      clear km V1
      refine hK.out _ _ ⟨_, V2.out⟩ (fun hH => ?_)
      clear hK K
      refine wpAnyH_ready (rs := [6]) (by kernel_rfl) (by simp) ?_
      refine AllReadyH.cons rfl (fun K hK => ?_) AllReadyH.nil
      rw [if_pos (by rfl)]
      go_simp
      go_wp2_with (go_at_call 97; refine (HU2.out _ _ _ _ _ V2.out (by have := HPL9.out; first | omega | (simp only [List.length_append]; omega))).mono ?_; rintro e w7 ⟨rfl, un⟩)
      have U6 := Lib.hid un
      clear un V2
      refine hK.out _ _ ⟨_, U6.out⟩ (fun hH => ?_)
      clear hK K
      refine wpAnyH_done (by kernel_rfl) ?_ _
      refine NoPanic.normal ?_
      clear hH
      obtain ⟨ss, hss⟩ : ∃ ss, ss = str (pt ++ h1x ++ h2x) := ⟨_, rfl⟩
      have HWT := Lib.hid (written_calls base wb (pt ++ h1x ++ h2x) w7 U6.out.wr)
      rw [← hss] at HWT
      have HSS := Lib.hid hss
      clear hss
      go_upto_region 9 with fail
      refine wp_region_lit ?_
      refine @BigFrame.wpList_want _ _ _ _ _ _ _ ?hw53033 ?_
      case hw53033 => kernel_rfl
      intro K hK
      go_simp
      refine hK _ _ ?_
      clear hK K
      refine @BigFrame.wpList_want _ _ _ _ _ _ _ ?hw53034 ?_
      case hw53034 => kernel_rfl
      intro K hK
      go_simp
      go_at_call 63
      refine (HWT.out).mono ?_
      rintro e wx ⟨rfl, hwx⟩
      subst wx
      refine hK _ _ ?_
      clear hK K
      refine @BigFrame.wpList_want _ _ _ _ _ _ _ ?hw53035 ?_
      case hw53035 => kernel_rfl
      intro K hK
      go_simp
      refine hK _ _ ?_
      clear hK K
      refine @BigFrame.wpList_want _ _ _ _ _ _ _ ?hw53036 ?_
      case hw53036 => kernel_rfl
      intro K hK
      go_simp
      go_at_call 54
      refine (HSP.out _ _ ss HSS.out (heap_new w7 _)).mono ?_
      rintro e w6 ⟨rfl, k6⟩
      refine hK _ _ ?_
      clear hK K
      have u6 := (U6.out.kept ((Kept.refl w7.heap.size w7.heap.size w7).alloc (Nat.le_refl _) _)).kept k6
      have R6 := Lib.hid (HRR.out _ _ u6)
      have K6 := Lib.hid (HKW.out _ _ u6)
      clear u6 k6
      refine wpList_store_row rfl 39 _ _ rfl (rb) cu rfl rfl 39 zeros32 R6.out (info30 HCS.out) (by rw [HCS.out]; rfl) HALL.out ?_
      simp only [Act.put]
      have R7 := setRow_heap w6 rb _ cu _ _ R6.out
      have K7 := Lib.hid (K6.out.grown (grown_setRow w6 rb cu) K6.out.size (fun k e => by cases e; exact Nat.le_of_not_lt HRB.out))
      generalize w6.setRow rb cu = w8 at R7 K7 ⊢
      go_wp2
      refine bodyPost_ret (results_cell_row rfl _ _ rb 39 _ (0, 0) _ rfl R7 Tryz.underlying39 rfl (info30 HCS.out)) rfl ?_
      exact ⟨rfl, K7.out⟩

end Go.Proofs.YtmmgekchfgmcdaaGreatDoor
