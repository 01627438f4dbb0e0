/-
  The document's HashAt.
-/
import Derived.Test.YtmmgekchfgmcdaaGreatDoorTreeHashMath
import Derived.Test.YtmmgekchfgmcdaaGreatDoorTreeRefText
import Derived.Test.YtmmgekchfgmcdaaGreatDoorGY
import Derived.Test.YtmmgekchfgmcdaaGreatDoorBoughRefs
import Derived.Test.YtmmgekchfgmcdaaGreatDoorGJ
import Derived.Test.YtmmgekchfgmcdaaGreatDoorGA

namespace Go.Proofs.YtmmgekchfgmcdaaGreatDoor
open Go.RowKit Go.Lib

theorem info32 {cs : Array Value} (h : cs.size = 32) : (Tryz.prog.info? 38).map (·.size) = some cs.size := by rw [h]; kernel_rfl
theorem sum_len32 (l : List UInt8) : (Sm.sum l).length = 32 := by
  rw [Sm.sum]
  exact wbytes_length (Sm.blocks (Sm.pad l) ((Sm.pad l).length / 64)).list 8 (Nat.le_refl _)
/-- What is asked of a tree whose hashes are looked at. -/
structure Tt.Fine (L : List Lf) (P : List Pr) : Prop where
  n64 : L.length ≤ 64
  par : P.length = L.length - 1
  nms : ∀ l ∈ L, 0 ≤ l.name ∧ l.name ≤ 64
  len : ∀ p ∈ P, p.loose.length ≤ 1000
  lse : ∀ p ∈ P, ∀ y ∈ p.loose, 0 ≤ y ∧ y ≤ 64
theorem hashSeg_len (L : List Lf) (P : List Pr) (k a m : Nat) : (Tt.hashSeg L P (k + 1) a m).length = 32 := by
  unfold Tt.hashSeg
  split <;> exact sum_len32 _
theorem refsum_str (s : ByteArray) (l : List UInt8) (hs : s = str l) (hl : l.length ≤ 20000) (w : World) : Calls Tryz.prog 57 #[.string s] w fun e w' => e = .returned (.agg (bcells (Sm.sum l)).toArray) ∧ Kept w.heap.size w.heap.size w w' := by
  subst hs
  exact refsum_calls (str l) w (by rw [str_size]; exact hl)
set_option maxRecDepth 100000 in
set_option maxHeartbeats 6400000 in
theorem refhashat_calls (L : List Lf) (P : List Pr) (hF : Tt.Fine L P) (n : Nat) (hn : n = L.length) (hn1 : 1 ≤ n) : ∀ (k a m : Nat) (p b : Int), m ≤ k → Bo.Seg n a m p b → ∀ (lv pv : Value) (w : World), Lvs w lv L → Pts w pv P →
    Calls Tryz.prog 26 #[.agg #[lv, pv], .int .i64 ((Bo.root a m : Nat) : Int)] w fun e w' => e = .returned (.agg (bcells (Tt.hashSeg L P k a m)).toArray) ∧ Kept w.heap.size w.heap.size w w' := by
  intro k
  induction k with
  | zero =>
    intro a m p b h1 h2
    have := (h2.size hn1).1
    omega
  | succ k ih =>
    intro a m p b hmk hseg lv pv w hL hP
    obtain ⟨hm1, ham⟩ := hseg.size hn1
    have h64 : n ≤ 64 := by rw [hn]; exact hF.n64
    obtain ⟨lad, lg, lo, lc, rfl, hlc, _⟩ := hL
    have hP0 := hP
    obtain ⟨pad, pg, po, pc, rfl, hpc, _⟩ := hP
    obtain ⟨ln, hln⟩ : ∃ ln, ln = L.length := ⟨_, rfl⟩
    obtain ⟨pn, hpn⟩ : ∃ pn, pn = P.length := ⟨_, rfl⟩
    have hL0 : Lvs w (.slice lad L.length lc) L := ⟨lad, lg, lo, lc, rfl, hlc, by assumption⟩
    by_cases h1 : m = 1
    · subst h1
      have ha : a < L.length := by omega
      obtain ⟨rfl, hg, hok, hr⟩ := hlc a ha
      have hget : L.getD a Lf.zero = L[a] := by rw [List.getD_eq_getElem?_getD, List.getElem?_eq_getElem ha]; rfl
      obtain ⟨hnm0, hnm1⟩ := hF.nms _ (List.getElem_mem ha)
      rw [Tt.hashSeg_one, hget]
      have HRL := Lib.hid (fun u => refleaf_calls L[a] hok hnm0 hnm1 u)
      have hlen := Tt.leafText_length hok
      have hcl := Lf.cells_length hok
      obtain ⟨ct, hct⟩ : ∃ ct, ct = L[a].cells := ⟨_, rfl⟩
      rw [← hct] at HRL hr hcl
      obtain ⟨lt, hlt⟩ : ∃ lt, lt = Tt.leafText L[a] := ⟨_, rfl⟩
      rw [← hlt] at HRL hlen ⊢
      obtain ⟨sl, hsl⟩ : ∃ sl, sl = str lt := ⟨_, rfl⟩
      rw [← hsl] at HRL
      have q0 : ¬ 9223372036854775807 < 4 + sl.size := by rw [hsl, str_size]; omega
      have HSM := Lib.hid (fun u => refsum_str (⟨#[108, 101, 97, 102]⟩ ++ sl) (Tt.leafB ++ lt) (by rw [hsl, ← str_append]; rfl) (by rw [List.length_append]; show 4 + _ ≤ _; omega) u)
      have hcs : (bcells (Sm.sum (Tt.leafB ++ lt))).toArray.size = 32 := by rw [List.size_toArray, bcells_length, sum_len32]
      have hall := bcells_all (Sm.sum (Tt.leafB ++ lt))
      obtain ⟨cu, hcu⟩ : ∃ cu, cu = (bcells (Sm.sum (Tt.leafB ++ lt))).toArray := ⟨_, rfl⟩
      rw [← hcu] at HSM hcs hall ⊢
      have HCS := Lib.hid hcs
      have HALL := Lib.hid hall
      have hal : (a : Int) < (ln : Int) := by omega
      have ha0 : ¬ (a : Int) < 0 := by omega
      obtain ⟨x, hx⟩ : ∃ x : Int, x = ((Bo.root a 1 : Nat) : Int) := ⟨_, rfl⟩
      have hx2 : x = 2 * (a : Int) := by rw [hx, Bo.root_one]; omega
      rw [← hx]
      have HX := Lib.hid hx2
      have HRM := Lib.hid (show x.tmod 2 = 0 by rw [hx2, Int.tmod_eq_emod_of_nonneg (by omega)]; omega)
      have HQU := Lib.hid (show IntKind.i64.wrap (x.tdiv 2) = (a : Int) by rw [show x.tdiv 2 = (a : Int) by rw [hx2, Int.tdiv_eq_ediv_of_nonneg (by omega)]; omega, wrap_small _ (by omega) (by omega)])
      have HWR := Lib.hid (show IntKind.i64.wrap (x.tmod 2) = 0 by rw [show x.tmod 2 = 0 by rw [hx2, Int.tmod_eq_emod_of_nonneg (by omega)]; omega]; rfl)
      have HINF := Lib.hid (show (Tryz.prog.info? 48).map (·.size) = some ct.length by have := leafInfo (Lf.size hok); rw [hct]; simpa using this)
      have HG := Lib.hid hg
      have HR := Lib.hid hr
      rw [← hln, ← hpn]
      clear ih hmk hseg hm1 ham hlc hL0 hP0 hpc hget hnm0 hnm1 hok hlen hcl hct hlt hsl hcs hall hcu hx hx2 hg hr hln hpn ha h64 hn hn1 hF
      have k1 := (Kept.refl w.heap.size w.heap.size w).alloc (Nat.le_refl _) (.cells #[.slice (some ⟨lg, lo, none⟩) ln lc, .slice pad pn pc] 27)
      have t1 := heap_new w (.cells #[.slice (some ⟨lg, lo, none⟩) ln lc, .slice pad pn pc] 27)
      have s1 : (w.alloc (.cells #[.slice (some ⟨lg, lo, none⟩) ln lc, .slice pad pn pc] 27)).heap.size = w.heap.size + 1 := by simp
      go_enter Tryz.func26, Tryz.ntmps26
      go_upto_region 1 with fail
      rw [zeros32_eq]
      generalize w.alloc (.cells #[.slice (some ⟨lg, lo, none⟩) ln lc, .slice pad pn pc] 27) = wa at k1 t1 s1 ⊢
      have k2 := (Kept.refl wa.heap.size wa.heap.size wa).alloc (Nat.le_refl _) (.cells zeros32 38)
      have r2 := heap_new wa (.cells zeros32 38)
      have t2 := (k2.block _ (lt_of_block t1) (Nat.ne_of_lt (lt_of_block t1))).trans t1
      generalize wa.alloc (.cells zeros32 38) = w1 at k2 r2 t2 ⊢
      have K1 := Lib.hid (k1.next1 k2)
      rw [s1] at r2
      (try rw [s1])
      obtain ⟨tb, htb⟩ : ∃ tb, tb = w.heap.size := ⟨_, rfl⟩
      obtain ⟨rb, hrb⟩ : ∃ rb, rb = w.heap.size + 1 := ⟨_, rfl⟩
      rw [← hrb] at r2
      (try rw [← hrb])
      rw [← htb] at t2
      (try rw [← htb])
      have HTR := Lib.hid (show tb ≠ rb by omega)
      have HRB := Lib.hid (show ¬ rb < w.heap.size by omega)
      have T1 := Lib.hid t2
      have R1 := Lib.hid r2
      clear k1 t1 s1 k2 r2 t2 htb hrb
      refine wp_region_lit ?_
      refine @BigFrame.wpList_want _ _ _ _ _ _ _ ?hw51001 ?_
      case hw51001 => kernel_rfl
      intro K hK
      go_simp
      refine hK _ _ ?_
      clear hK K
      refine @BigFrame.wpList_want _ _ _ _ _ _ _ ?hw51002 ?_
      case hw51002 => kernel_rfl
      intro K hK
      go_simp
      refine hK _ _ ?_
      clear hK K
      (try rw [HWR.out])
      (try rw [HRM.out])
      refine @BigFrame.wpList_want _ _ _ _ _ _ _ ?hw51003 ?_
      case hw51003 => kernel_rfl
      intro K hK
      go_simp
      refine hK _ _ ?_
      clear hK K
      have t0 := two_cell0 T1.out
      have HLD := Lib.hid (run_loadVar_mid w1 lg (lo + a * 97) 48 ct _ (rangeAt_kept K1.out HR.out HG.out (Nat.ne_of_lt HG.out)) Tryz.underlying48 rfl HINF.out)
      go_upto_region 2 with fail
      refine wp_region_lit ?_
      refine @BigFrame.wpList_want _ _ _ _ _ _ _ ?hw51004 ?_
      case hw51004 => kernel_rfl
      intro K hK
      go_simp
      refine hK _ _ ?_
      clear hK K
      refine @BigFrame.wpList_want _ _ _ _ _ _ _ ?hw51005 ?_
      case hw51005 => kernel_rfl
      intro K hK
      go_simp
      refine hK _ _ ?_
      clear hK K
      refine @BigFrame.wpList_want _ _ _ _ _ _ _ ?hw51006 ?_
      case hw51006 => kernel_rfl
      intro K hK
      go_simp
      refine hK _ _ ?_
      clear hK K
      refine @BigFrame.wpList_want _ _ _ _ _ _ _ ?hw51007 ?_
      case hw51007 => kernel_rfl
      intro K hK
      go_simp
      refine hK _ _ ?_
      clear hK K
      rw [HQU.out]
      refine @BigFrame.wpList_want _ _ _ _ _ _ _ ?hw51008 ?_
      case hw51008 => kernel_rfl
      intro K hK
      go_simp
      refine hK _ _ ?_
      clear hK K
      refine @wpList_load_known _ _ _ _ _ _ _ ?hw51009 48 (.tmp 13) rfl (lg) (lo + a * 97) rfl (.agg ct.toArray) (HLD.out) ?_
      case hw51009 => kernel_rfl
      simp only [Act.put, List.setIfInBounds_toArray, List.set_cons_zero, List.set_cons_succ]
      refine @BigFrame.wpList_want _ _ _ _ _ _ _ ?hw51010 ?_
      case hw51010 => kernel_rfl
      intro K hK
      go_simp
      go_at_call 65
      refine (HRL.out _).mono ?_
      rintro e w2 ⟨rfl, k2⟩
      refine hK _ _ ?_
      clear hK K
      refine @BigFrame.wpList_want _ _ _ _ _ _ _ ?hw51011 ?_
      case hw51011 => kernel_rfl
      intro K hK
      go_simp
      refine hK _ _ ?_
      clear hK K
      refine @BigFrame.wpList_want _ _ _ _ _ _ _ ?hw51012 ?_
      case hw51012 => kernel_rfl
      intro K hK
      go_simp
      go_at_call 57
      refine (HSM.out _).mono ?_
      rintro e w3 ⟨rfl, k3⟩
      refine hK _ _ ?_
      clear hK K
      have K3 := Lib.hid ((K1.out.next1 k2).next1 k3)
      have r2 := (k2.block rb (lt_of_block R1.out) (Nat.ne_of_lt (lt_of_block R1.out))).trans R1.out
      have R3 := Lib.hid ((k3.block rb (lt_of_block r2) (Nat.ne_of_lt (lt_of_block r2))).trans r2)
      clear k2 k3 r2
      refine wpList_store_row rfl 38 _ _ rfl (rb) cu rfl rfl 38 zeros32 R3.out (info32 HCS.out) (by rw [HCS.out]; rfl) HALL.out ?_
      simp only [Act.put]
      have R4 := setRow_heap w3 rb _ cu _ _ R3.out
      have K4 := Lib.hid (K3.out.grown (grown_setRow w3 rb cu) K3.out.size (fun k e => by cases e; exact Nat.le_of_not_lt HRB.out))
      generalize w3.setRow rb cu = w4 at R4 K4 ⊢
      go_wp2
      refine bodyPost_ret (results_cell_row rfl _ _ rb 38 _ (0, 0) _ rfl R4 Tryz.underlying38 rfl (info32 HCS.out)) rfl ?_
      exact ⟨rfl, K4.out⟩
    · have h2 : 2 ≤ m := by omega
      have hh1 := Bo.half_pos m
      have hh2 := Bo.half_lt h2
      have hrt := Bo.root_two (a := a) h2
      obtain ⟨j, hj⟩ : ∃ j, j = Bo.root a m / 2 := ⟨_, rfl⟩
      have hxj : Bo.root a m = 2 * j + 1 := by omega
      have hjP : j < P.length := by rw [hF.par]; omega
      obtain ⟨rfl, hg, hok, sl, hr, hnums⟩ := hpc j hjP
      have hget : P.getD (Bo.root a m / 2) Pr.zero = P[j] := by rw [← hj, List.getD_eq_getElem?_getD, List.getElem?_eq_getElem hjP]; rfl
      have hlse := hF.lse _ (List.getElem_mem hjP)
      have hl9 := hF.len _ (List.getElem_mem hjP)
      obtain ⟨k', hk'⟩ : ∃ k', k = k' + 1 := ⟨k - 1, by omega⟩
      have hs1 : (Tt.hashSeg L P k a (Bo.half m)).length = 32 := by rw [hk']; exact hashSeg_len L P k' _ _
      have hs2 : (Tt.hashSeg L P k (a + Bo.half m) (m - Bo.half m)).length = 32 := by rw [hk']; exact hashSeg_len L P k' _ _
      obtain ⟨eside, _⟩ : (Bo.Left n (Bo.root a m) = Bo.root a (Bo.half m) ∧ Bo.Right n (Bo.root a m) = Bo.root (a + Bo.half m) (m - Bo.half m)) ∧ True := ⟨(Bo.say_sides (hseg.inn hn1) h64 (hseg.part hn1 h64)).2 h1, trivial⟩
      have HLE := Lib.hid (fun u => rleft_calls (n : Int) ((Bo.root a m : Nat) : Int) u)
      have HRI := Lib.hid (fun u => rright_calls (n : Int) ((Bo.root a m : Nat) : Int) u)
      rw [eside.1] at HLE
      rw [eside.2] at HRI
      have HH1 := Lib.hid (fun (u : World) (kk : Kept w.heap.size w.heap.size w u) => ih a (Bo.half m) _ _ (by omega) (hseg.left h2) _ _ u (hL0.kept kk) (hP0.kept kk))
      have HH2 := Lib.hid (fun (u : World) (kk : Kept w.heap.size w.heap.size w u) => ih (a + Bo.half m) (m - Bo.half m) _ _ (by omega) (hseg.right h2) _ _ u (hL0.kept kk) (hP0.kept kk))
      rw [Tt.hashSeg_two L P k a m h2, hget]
      have hplen := Tt.parentText_length hok hl9
      have HPT := Lib.hid (fun (u : World) (kk : Kept w.heap.size w.heap.size w u) => refparent_calls P[j] hok sl u (hnums.kept kk) hl9 hlse)
      have HINF := Lib.hid (show (Tryz.prog.info? 75).map (·.size) = some (P[j].cells sl).length by have := parentInfo (Pr.size hok sl); simpa using this)
      obtain ⟨h1x, hh1x⟩ : ∃ y, y = Tt.hashSeg L P k a (Bo.half m) := ⟨_, rfl⟩
      obtain ⟨h2x, hh2x⟩ : ∃ y, y = Tt.hashSeg L P k (a + Bo.half m) (m - Bo.half m) := ⟨_, rfl⟩
      rw [← hh1x] at HH1 hs1 ⊢
      rw [← hh2x] at HH2 hs2 ⊢
      have HT1 := Lib.hid (fun u => text_calls8 h1x hs1 u)
      have HT2 := Lib.hid (fun u => text_calls8 h2x hs2 u)
      obtain ⟨ct, hct⟩ : ∃ ct, ct = P[j].cells sl := ⟨_, rfl⟩
      rw [← hct] at HPT hr HINF
      obtain ⟨pt, hpt⟩ : ∃ pt, pt = Tt.parentText P[j] := ⟨_, rfl⟩
      rw [← hpt] at HPT hplen ⊢
      obtain ⟨sp, hsp⟩ : ∃ sp, sp = str pt := ⟨_, rfl⟩
      obtain ⟨s1x, hs1x⟩ : ∃ s, s = str h1x := ⟨_, rfl⟩
      obtain ⟨s2x, hs2x⟩ : ∃ s, s = str h2x := ⟨_, rfl⟩
      rw [← hsp] at HPT
      rw [← hs1x] at HT1
      rw [← hs2x] at HT2
      have z1 : sp.size ≤ 10000 := by rw [hsp, str_size]; exact hplen
      have z2 : s1x.size = 32 := by rw [hs1x, str_size]; exact hs1
      have z3 : s2x.size = 32 := by rw [hs2x, str_size]; exact hs2
      have q0 : ¬ 9223372036854775807 < 4 + sp.size := by omega
      have q1 : ¬ 9223372036854775807 < 4 + sp.size + s1x.size := by omega
      have q2 : ¬ 9223372036854775807 < 4 + sp.size + s1x.size + s2x.size := by omega
      have HSM := Lib.hid (fun u => refsum_str (⟨#[110, 111, 100, 101]⟩ ++ sp ++ s1x ++ s2x) (Tt.nodeB ++ pt ++ h1x ++ h2x) (by rw [hsp, hs1x, hs2x, ← str_append, ← str_append, ← str_append]; rfl) (by simp only [List.length_append, hs1, hs2]; show 4 + _ + _ + _ ≤ _; omega) u)
      have hcs : (bcells (Sm.sum (Tt.nodeB ++ pt ++ h1x ++ h2x))).toArray.size = 32 := by rw [List.size_toArray, bcells_length, sum_len32]
      have hall := bcells_all (Sm.sum (Tt.nodeB ++ pt ++ h1x ++ h2x))
      obtain ⟨cu, hcu⟩ : ∃ cu, cu = (bcells (Sm.sum (Tt.nodeB ++ pt ++ h1x ++ h2x))).toArray := ⟨_, rfl⟩
      rw [← hcu] at HSM hcs hall ⊢
      have HCS := Lib.hid hcs
      have HALL := Lib.hid hall
      obtain ⟨d1, hd1⟩ : ∃ d, d = (bcells h1x).toArray := ⟨_, rfl⟩
      obtain ⟨d2, hd2⟩ : ∃ d, d = (bcells h2x).toArray := ⟨_, rfl⟩
      rw [← hd1] at HH1 HT1
      rw [← hd2] at HH2 HT2
      obtain ⟨y1, hy1⟩ : ∃ y : Int, y = ((Bo.root a (Bo.half m) : Nat) : Int) := ⟨_, rfl⟩
      obtain ⟨y2, hy2⟩ : ∃ y : Int, y = ((Bo.root (a + Bo.half m) (m - Bo.half m) : Nat) : Int) := ⟨_, rfl⟩
      rw [← hy1] at HLE HH1
      rw [← hy2] at HRI HH2
      obtain ⟨x, hx⟩ : ∃ x : Int, x = ((Bo.root a m : Nat) : Int) := ⟨_, rfl⟩
      rw [← hx] at HLE HRI ⊢
      have hx2 : x = 2 * (j : Int) + 1 := by rw [hx, hxj]; omega
      have HX := Lib.hid hx2
      have HQU := Lib.hid (show IntKind.i64.wrap (x.tdiv 2) = (j : Int) by rw [show x.tdiv 2 = (j : Int) by rw [hx2, Int.tdiv_eq_ediv_of_nonneg (by omega)]; omega, wrap_small _ (by omega) (by omega)])
      have HRM := Lib.hid (show x.tmod 2 = 1 by rw [hx2, Int.tmod_eq_emod_of_nonneg (by omega)]; omega)
      have HWR := Lib.hid (show IntKind.i64.wrap (x.tmod 2) = 1 by rw [show x.tmod 2 = 1 by rw [hx2, Int.tmod_eq_emod_of_nonneg (by omega)]; omega]; rfl)
      have hjl : (j : Int) < (pn : Int) := by omega
      have hj0 : ¬ (j : Int) < 0 := by omega
      have hnl : n = ln := by omega
      rw [hnl] at HLE HRI
      rw [← hln, ← hpn] at HH1 HH2
      have HG := Lib.hid hg
      have HR := Lib.hid hr
      rw [← hln, ← hpn]
      clear ih hmk hseg hm1 ham hlc hL0 hP0 hpc hget hok hlse hl9 hs1 hs2 eside hplen hct hpt hsp hs1x hs2x z1 z2 z3 hcs hall hcu hd1 hd2 hy1 hy2 hx hx2 hg hr hnums hh1 hh2 hrt hj hxj hjP hh1x hh2x hk' h1 h2 hpn hln h64 hnl hn hn1 hF
      have k1 := (Kept.refl w.heap.size w.heap.size w).alloc (Nat.le_refl _) (.cells #[.slice lad ln lc, .slice (some ⟨pg, po, none⟩) pn pc] 27)
      have t1 := heap_new w (.cells #[.slice lad ln lc, .slice (some ⟨pg, po, none⟩) pn pc] 27)
      have s1 : (w.alloc (.cells #[.slice lad ln lc, .slice (some ⟨pg, po, none⟩) pn pc] 27)).heap.size = w.heap.size + 1 := by simp
      go_enter Tryz.func26, Tryz.ntmps26
      go_upto_region 1 with fail
      rw [zeros32_eq]
      generalize w.alloc (.cells #[.slice lad ln lc, .slice (some ⟨pg, po, none⟩) pn pc] 27) = wa at k1 t1 s1 ⊢
      have k2 := (Kept.refl wa.heap.size wa.heap.size wa).alloc (Nat.le_refl _) (.cells zeros32 38)
      have r2 := heap_new wa (.cells zeros32 38)
      have t2 := (k2.block _ (lt_of_block t1) (Nat.ne_of_lt (lt_of_block t1))).trans t1
      generalize wa.alloc (.cells zeros32 38) = w1 at k2 r2 t2 ⊢
      have K1 := Lib.hid (k1.next1 k2)
      rw [s1] at r2
      (try rw [s1])
      obtain ⟨tb, htb⟩ : ∃ tb, tb = w.heap.size := ⟨_, rfl⟩
      obtain ⟨rb, hrb⟩ : ∃ rb, rb = w.heap.size + 1 := ⟨_, rfl⟩
      rw [← hrb] at r2
      (try rw [← hrb])
      rw [← htb] at t2
      (try rw [← htb])
      have HTR := Lib.hid (show tb ≠ rb by omega)
      have HRB := Lib.hid (show ¬ rb < w.heap.size by omega)
      have T1 := Lib.hid t2
      have R1 := Lib.hid r2
      clear k1 t1 s1 k2 r2 t2 htb hrb
      refine wp_region_lit ?_
      refine @BigFrame.wpList_want _ _ _ _ _ _ _ ?hw51013 ?_
      case hw51013 => kernel_rfl
      intro K hK
      go_simp
      refine hK _ _ ?_
      clear hK K
      refine @BigFrame.wpList_want _ _ _ _ _ _ _ ?hw51014 ?_
      case hw51014 => kernel_rfl
      intro K hK
      go_simp
      refine hK _ _ ?_
      clear hK K
      (try rw [HWR.out])
      (try rw [HRM.out])
      refine @BigFrame.wpList_want _ _ _ _ _ _ _ ?hw51015 ?_
      case hw51015 => kernel_rfl
      intro K hK
      go_simp
      refine hK _ _ ?_
      clear hK K
      have t0 := two_cell0 T1.out
      go_upto_region 3 with fail
      refine wp_region_lit ?_
      refine @BigFrame.wpList_want _ _ _ _ _ _ _ ?hw51016 ?_
      case hw51016 => kernel_rfl
      intro K hK
      go_simp
      refine hK _ _ ?_
      clear hK K
      refine @BigFrame.wpList_want _ _ _ _ _ _ _ ?hw51017 ?_
      case hw51017 => kernel_rfl
      intro K hK
      go_simp
      refine hK _ _ ?_
      clear hK K
      refine @BigFrame.wpList_want _ _ _ _ _ _ _ ?hw51018 ?_
      case hw51018 => kernel_rfl
      intro K hK
      go_simp
      refine hK _ _ ?_
      clear hK K
      refine @BigFrame.wpList_want _ _ _ _ _ _ _ ?hw51019 ?_
      case hw51019 => kernel_rfl
      intro K hK
      go_simp
      refine hK _ _ ?_
      clear hK K
      clear t0
      go_upto_region 4 with fail
      refine wp_region_noPanic ?_
      obtain ⟨wd, hwd⟩ : ∃ wd, wd = w1.drew := ⟨_, rfl⟩
      have hkd : Kept w1.heap.size w1.heap.size w1 wd := by rw [hwd]; exact (Kept.refl _ _ _).drew
      have HT := Lib.hid (fun (u : World) (k : Kept w1.heap.size w1.heap.size w1 u) => (k.block tb (lt_of_block T1.out) (Nat.ne_of_lt (lt_of_block T1.out))).trans T1.out)
      have HLT := Lib.hid (fun (u : World) (k : Kept w1.heap.size w1.heap.size w1 u) => run_loadVar_row u tb 27 27 _ (0, 0) _ (HT.out u k) Tryz.underlying27 rfl treeInfo)
      have HLP := Lib.hid (fun (u : World) (k : Kept w1.heap.size w1.heap.size w1 u) => load_slice (d := .int .u8) (two_cell1 (HT.out u k)) (.inr rfl) rfl)
      have hwr := rangeAt_kept K1.out HR.out HG.out (Nat.ne_of_lt HG.out)
      have hg1 := Nat.lt_of_lt_of_le HG.out K1.out.size
      have HLD := Lib.hid (fun (u : World) (k : Kept w1.heap.size w1.heap.size w1 u) => rangeAt_kept k hwr hg1 (Nat.ne_of_lt hg1))
      clear hwr hg1
      refine wp_region_heldTo 23 (S := fun w' => Kept w1.heap.size w1.heap.size w1 w') (by kernel_rfl) (by rw [← hwd]; exact hkd) (fun hH => ?_)
      rw [← hwd] at hH ⊢
      clear hwd
      refine heldTo_take (i := 0) 21 (.pointer (some ⟨tb, 1, none⟩)) rfl rfl (by kernel_rfl) (by kernel_rfl) (by kernel_rfl) (by kernel_rfl) (fun _ _ _ h => h) (.inl ⟨by kernel_rfl, fun w9 _ => by go_simp; first | done | rfl⟩) hH ?_
      simp only [List.setIfInBounds_toArray, List.set_cons_zero, List.set_cons_succ]
      refine heldTo_take (i := 1) 22 (.slice (some ⟨pg, po, none⟩) pn pc) rfl rfl (by kernel_rfl) (by kernel_rfl) (by kernel_rfl) (by kernel_rfl) (fun _ _ _ h => h) (yieldsIf_load_known (by kernel_rfl) 25 _ rfl (tb) (1) rfl (.slice (some ⟨pg, po, none⟩) pn pc) (HLP.out)) hH ?_
      simp only [List.setIfInBounds_toArray, List.set_cons_zero, List.set_cons_succ]
      refine heldTo_take (i := 2) 23 (.int .i64 x) rfl rfl (by kernel_rfl) (by kernel_rfl) (by kernel_rfl) (by kernel_rfl) (fun _ _ _ h => h) (.inl ⟨by kernel_rfl, fun w9 _ => by go_simp; first | done | rfl⟩) hH ?_
      simp only [List.setIfInBounds_toArray, List.set_cons_zero, List.set_cons_succ]
      refine heldTo_take (i := 3) 24 (.int .i64 (j : Int)) rfl rfl (by kernel_rfl) (by kernel_rfl) (by kernel_rfl) (by kernel_rfl) (fun _ _ _ h => h) (.inl ⟨by kernel_rfl, fun w9 _ => by go_simp; first | rw [HQU.out] | done⟩) hH ?_
      simp only [List.setIfInBounds_toArray, List.set_cons_zero, List.set_cons_succ]
      refine heldTo_take (i := 4) 25 (.pointer (some ⟨pg, po + j * 66, none⟩)) rfl rfl (by kernel_rfl) (by kernel_rfl) (by kernel_rfl) (by kernel_rfl) (fun _ _ _ h => h) (.inl ⟨by kernel_rfl, fun w9 _ => by go_simp; first | done | rfl⟩) hH ?_
      simp only [List.setIfInBounds_toArray, List.set_cons_zero, List.set_cons_succ]
      refine heldTo_take (i := 5) 26 (.agg ct.toArray) rfl rfl (by kernel_rfl) (by kernel_rfl) (by kernel_rfl) (by kernel_rfl) (fun _ _ _ h => h) (yieldsIf_load_mid (by kernel_rfl) 75 _ rfl (pg) (po + j * 66) rfl ct _ HLD.out Tryz.underlying75 rfl HINF.out) hH ?_
      simp only [List.setIfInBounds_toArray, List.set_cons_zero, List.set_cons_succ]
      refine heldTo_take (i := 8) 29 (.agg #[.slice lad ln lc, .slice (some ⟨pg, po, none⟩) pn pc]) rfl rfl (by kernel_rfl) (by kernel_rfl) (by kernel_rfl) (by kernel_rfl) (fun _ _ _ h => h) (yieldsIf_load_known (by kernel_rfl) 27 _ rfl (tb) (0) rfl (.agg #[.slice lad ln lc, .slice (some ⟨pg, po, none⟩) pn pc]) (HLT.out)) hH ?_
      simp only [List.setIfInBounds_toArray, List.set_cons_zero, List.set_cons_succ]
      refine heldTo_take (i := 9) 30 (.int .i64 (ln : Int)) rfl rfl (by kernel_rfl) (by kernel_rfl) (by kernel_rfl) (by kernel_rfl) (fun _ _ _ h => h) (.inl ⟨by kernel_rfl, fun w9 _ => by go_simp; first | done | rfl⟩) hH ?_
      simp only [List.setIfInBounds_toArray, List.set_cons_zero, List.set_cons_succ]
      refine heldTo_take (i := 10) 31 (.int .i64 x) rfl rfl (by kernel_rfl) (by kernel_rfl) (by kernel_rfl) (by kernel_rfl) (fun _ _ _ h => h) (.inl ⟨by kernel_rfl, fun w9 _ => by go_simp; first | done | rfl⟩) hH ?_
      simp only [List.setIfInBounds_toArray, List.set_cons_zero, List.set_cons_succ]
      refine heldTo_take (i := 15) 36 (.agg #[.slice lad ln lc, .slice (some ⟨pg, po, none⟩) pn pc]) rfl rfl (by kernel_rfl) (by kernel_rfl) (by kernel_rfl) (by kernel_rfl) (fun _ _ _ h => h) (yieldsIf_load_known (by kernel_rfl) 27 _ rfl (tb) (0) rfl (.agg #[.slice lad ln lc, .slice (some ⟨pg, po, none⟩) pn pc]) (HLT.out)) hH ?_
      simp only [List.setIfInBounds_toArray, List.set_cons_zero, List.set_cons_succ]
      refine heldTo_take (i := 16) 37 (.int .i64 (ln : Int)) rfl rfl (by kernel_rfl) (by kernel_rfl) (by kernel_rfl) (by kernel_rfl) (fun _ _ _ h => h) (.inl ⟨by kernel_rfl, fun w9 _ => by go_simp; first | done | rfl⟩) hH ?_
      simp only [List.setIfInBounds_toArray, List.set_cons_zero, List.set_cons_succ]
      refine heldTo_take (i := 17) 38 (.int .i64 x) rfl rfl (by kernel_rfl) (by kernel_rfl) (by kernel_rfl) (by kernel_rfl) (fun _ _ _ h => h) (.inl ⟨by kernel_rfl, fun w9 _ => by go_simp; first | done | rfl⟩) hH ?_
      simp only [List.setIfInBounds_toArray, List.set_cons_zero, List.set_cons_succ]
      refine heldTo_one (i := 6) (by kernel_rfl) rfl (fun K hK => ?_)
      rw [if_pos (by rfl)]
      go_simp
      go_wp2_with (go_at_call 66; refine (HPT.out _ (K1.out.next1 hH)).mono ?_; rintro e w2 ⟨rfl, kw2⟩)
      have K2 : Kept w1.heap.size w1.heap.size w1 w2 := hH.next1 kw2
      refine hK.out _ _ K2 (fun hH => ?_)
      clear hK K
      refine heldTo_take (i := 7) 28 (.string (⟨#[110, 111, 100, 101]⟩ ++ sp)) rfl rfl (by kernel_rfl) (by kernel_rfl) (by kernel_rfl) (by kernel_rfl) (fun _ _ _ h => h) (.inl ⟨by kernel_rfl, fun w9 _ => by go_simp; first | done | rfl⟩) hH ?_
      simp only [List.setIfInBounds_toArray, List.set_cons_zero, List.set_cons_succ]
      refine heldTo_one (i := 11) (by kernel_rfl) rfl (fun K hK => ?_)
      rw [if_pos (by rfl)]
      go_simp
      go_wp2_with (go_at_call 67; refine (HLE.out _).mono ?_; rintro e w3 ⟨rfl, hw3⟩; subst w3)
      have K3 := K2
      refine hK.out _ _ K3 (fun hH => ?_)
      clear hK K
      refine heldTo_one (i := 12) (by kernel_rfl) rfl (fun K hK => ?_)
      rw [if_pos (by rfl)]
      go_simp
      go_wp2_with (go_at_call 26; refine (HH1.out _ (K1.out.next1 K3)).mono ?_; rintro e w4 ⟨rfl, kw4⟩)
      have K4 : Kept w1.heap.size w1.heap.size w1 w4 := K3.next1 kw4
      refine hK.out _ _ K4 (fun hH => ?_)
      clear hK K
      refine heldTo_one (i := 13) (by kernel_rfl) rfl (fun K hK => ?_)
      rw [if_pos (by rfl)]
      go_simp
      go_wp2_with (go_at_call 69; refine (HT1.out _).mono ?_; rintro e w5 ⟨rfl, kw5⟩)
      have K5 : Kept w1.heap.size w1.heap.size w1 w5 := K4.next1 kw5
      refine hK.out _ _ K5 (fun hH => ?_)
      clear hK K
      refine heldTo_take (i := 14) 35 (.string (⟨#[110, 111, 100, 101]⟩ ++ sp ++ s1x)) rfl rfl (by kernel_rfl) (by kernel_rfl) (by kernel_rfl) (by kernel_rfl) (fun _ _ _ h => h) (.inl ⟨by kernel_rfl, fun w9 _ => by go_simp; first | done | rfl⟩) hH ?_
      simp only [List.setIfInBounds_toArray, List.set_cons_zero, List.set_cons_succ]
      refine heldTo_one (i := 18) (by kernel_rfl) rfl (fun K hK => ?_)
      rw [if_pos (by rfl)]
      go_simp
      go_wp2_with (go_at_call 68; refine (HRI.out _).mono ?_; rintro e w6 ⟨rfl, hw6⟩; subst w6)
      have K6 := K5
      refine hK.out _ _ K6 (fun hH => ?_)
      clear hK K
      refine heldTo_one (i := 19) (by kernel_rfl) rfl (fun K hK => ?_)
      rw [if_pos (by rfl)]
      go_simp
      go_wp2_with (go_at_call 26; refine (HH2.out _ (K1.out.next1 K6)).mono ?_; rintro e w7 ⟨rfl, kw7⟩)
      have K7 : Kept w1.heap.size w1.heap.size w1 w7 := K6.next1 kw7
      refine hK.out _ _ K7 (fun hH => ?_)
      clear hK K
      refine heldTo_one (i := 20) (by kernel_rfl) rfl (fun K hK => ?_)
      rw [if_pos (by rfl)]
      go_simp
      go_wp2_with (go_at_call 69; refine (HT2.out _).mono ?_; rintro e w8 ⟨rfl, kw8⟩)
      have K8 : Kept w1.heap.size w1.heap.size w1 w8 := K7.next1 kw8
      refine hK.out _ _ K8 (fun hH => ?_)
      clear hK K
      refine heldTo_take (i := 21) 42 (.string (⟨#[110, 111, 100, 101]⟩ ++ sp ++ s1x ++ s2x)) rfl rfl (by kernel_rfl) (by kernel_rfl) (by kernel_rfl) (by kernel_rfl) (fun _ _ _ h => h) (.inl ⟨by kernel_rfl, fun w9 _ => by go_simp; first | done | rfl⟩) hH ?_
      simp only [List.setIfInBounds_toArray, List.set_cons_zero, List.set_cons_succ]
      refine heldTo_one (i := 22) (by kernel_rfl) rfl (fun K hK => ?_)
      rw [if_pos (by rfl)]
      go_simp
      go_wp2_with (go_at_call 57; refine (HSM.out _).mono ?_; rintro e w9 ⟨rfl, kw9⟩)
      have K9 : Kept w1.heap.size w1.heap.size w1 w9 := K8.next1 kw9
      refine hK.out _ _ K9 (fun hH => ?_)
      clear hK K
      have R9 := (K9.block rb (lt_of_block R1.out) (Nat.ne_of_lt (lt_of_block R1.out))).trans R1.out
      refine heldTo_last (by kernel_rfl) rfl (fun K hK => ?_)
      rw [if_pos (by rfl)]
      refine wp_store_row_none 38 _ _ rfl rfl rb cu rfl rfl 38 zeros32 R9 (info32 HCS.out) (by rw [HCS.out]; rfl) HALL.out ?_
      refine hK.out _ _ ?_
      clear hK K
      refine heldTo_done (by kernel_rfl) ?_ _
      refine NoPanic.normal ?_
      have R10 := setRow_heap w9 rb _ cu _ _ R9
      have K10 := Lib.hid ((K1.out.next1 K9).grown (grown_setRow w9 rb cu) (K1.out.next1 K9).size (fun k e => by cases e; exact Nat.le_of_not_lt HRB.out))
      generalize w9.setRow rb cu = w10 at R10 K10 ⊢
      clear hH q0 q1 q2
      go_wp2
      refine bodyPost_ret (results_cell_row rfl _ _ rb 38 _ (0, 0) _ rfl R10 Tryz.underlying38 rfl (info32 HCS.out)) rfl ?_
      exact ⟨rfl, K10.out⟩

end Go.Proofs.YtmmgekchfgmcdaaGreatDoor
