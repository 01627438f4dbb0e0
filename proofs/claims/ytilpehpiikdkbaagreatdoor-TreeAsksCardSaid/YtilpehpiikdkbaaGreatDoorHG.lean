/-
 TreePackMath; TreePack; TreeRefPack: several texts in one.
-/
import Derived.Test.YtilpehpiikdkbaaGreatDoorHI

namespace Go.Proofs.YtilpehpiikdkbaaGreatDoor
open Go.RowKit Go.Lib

namespace Tt
def leavesText (L : List Lf) : List UInt8 := (L.map leafText).flatten
def parentsText (P : List Pr) : List UInt8 := (P.map parentText).flatten
/-- A tree's bytes. -/
def packText (L : List Lf) (P : List Pr) : List UInt8 := Wm.enc L.length ++ leavesText L ++ parentsText P
theorem leavesText_snoc (L : List Lf) (l : Lf) : leavesText (L ++ [l]) = leavesText L ++ leafText l := by
 unfold leavesText
 rw [List.map_append, List.flatten_append]
 simp
theorem parentsText_snoc (P : List Pr) (p : Pr) : parentsText (P ++ [p]) = parentsText P ++ parentText p := by
 unfold parentsText
 rw [List.map_append, List.flatten_append]
 simp
theorem leavesText_length : ∀ L : List Lf, (∀ l ∈ L, l.Ok) → (leavesText L).length ≤ 200 * L.length
 | [], _ => Nat.le_refl _
 | l :: L, h => by
  have h1 := leafText_length (h l List.mem_cons_self)
  have h2 := leavesText_length L (fun x hx => h x (List.mem_cons_of_mem _ hx))
  unfold leavesText at h2 ⊢
  rw [List.map_cons, List.flatten_cons, List.length_append, List.length_cons]
  omega
theorem parentText_short {p : Pr} (h : p.Ok) (hl : p.loose.length ≤ 64) : (parentText p).length ≤ 600 := by
 unfold parentText
 have h1 := Wm.enc_length_le p.loose.length
 have h2 := looseText_length p.loose
 split
 ·simp only [List.length_append, List.length_singleton, h.1, h.2]
  omega
 ·simp
theorem parentsText_length : ∀ P : List Pr, (∀ p ∈ P, p.Ok ∧ p.loose.length ≤ 64) → (parentsText P).length ≤ 600 * P.length
 | [], _ => Nat.le_refl _
 | p :: P, h => by
  obtain ⟨h0, h3⟩ := h p List.mem_cons_self
  have h1 := parentText_short h0 h3
  have h2 := parentsText_length P (fun x hx => h x (List.mem_cons_of_mem _ hx))
  unfold parentsText at h2 ⊢
  rw [List.map_cons, List.flatten_cons, List.length_append, List.length_cons]
  omega
end Tt
theorem Lvs.oks {w : World} {v : Value} {L : List Lf} (h : Lvs w v L) : ∀ l ∈ L, l.Ok := by
 obtain ⟨_, _, _, _, _, h1, _⟩ := h
 intro l hl
 obtain ⟨i, hi, rfl⟩ := List.getElem_of_mem hl
 exact (h1 i hi).2.2.1
theorem Pts.oks {w : World} {v : Value} {P : List Pr} (h : Pts w v P) : ∀ p ∈ P, p.Ok := by
 obtain ⟨_, _, _, _, _, h1, _⟩ := h
 intro p hp
 obtain ⟨i, hi, rfl⟩ := List.getElem_of_mem hp
 exact (h1 i hi).2.2.1

end Go.Proofs.YtilpehpiikdkbaaGreatDoor

namespace Go.Proofs.YtilpehpiikdkbaaGreatDoor
open Go.RowKit Go.Lib

set_option maxRecDepth 100000 in
set_option maxHeartbeats 6400000 in
theorem pack_calls8 (lv pv : Value) (L : List Lf) (P : List Pr) (w : World) (htab : Tab w) (hL : Lvs w lv L) (hP : Pts w pv P) (hr : Tt.right L P = true) :
  Calls Tryz.prog 20 #[.agg #[lv, pv]] w fun e w' => e = .returned (.string (str (Tt.packText L P))) ∧ Kept w.heap.size w.heap.size w w' := by
 have hF := Tt.fine_of hr
 have hls : ∀ p ∈ P, p.loose.length ≤ 64 := by
  obtain ⟨h1, h2, h3⟩ := Tt.right_parts hr
  exact Tt.parents_loose h1 P 0 h3
 have HLT1 := Lib.hid (fun i => Tt.leavesText_length (L.take i) (fun l hl => hL.oks l (List.mem_of_mem_take hl)))
 have HPT1 := Lib.hid (fun i => Tt.parentsText_length (P.take i) (fun p hp => ⟨hP.oks p (List.mem_of_mem_take hp), hls p (List.mem_of_mem_take hp)⟩))
 have HRR := Lib.hid (fun (x : World) (k : Kept w.heap.size w.heap.size w x) => right_calls8 lv pv L P x (hL.kept k) (hP.kept k) (Nat.le_trans hF.n64 (by decide)) (by have := hF.n64; have := hF.par; omega) hF.len)
 rw [hr] at HRR
 obtain ⟨lad, lg, lo, lc, rfl, hlc, _⟩ := hL
 obtain ⟨pad, pg, po, pc, rfl, hpc, _⟩ := hP
 obtain ⟨ln, hln⟩ : ∃ ln, ln = L.length := ⟨_, rfl⟩
 obtain ⟨pn, hpn⟩ : ∃ pn, pn = P.length := ⟨_, rfl⟩
 have hln9 : ln ≤ 64 := by rw [hln]; exact hF.n64
 have hpn9 : pn ≤ 64 := by have := hF.n64; have := hF.par; omega
 have HLC := Lib.hid hlc
 have HPC := Lib.hid hpc
 have HF := Lib.hid hF
 have HLN := Lib.hid hln
 have HPN := Lib.hid hpn
 rw [← hln, ← hpn] at HRR ⊢
 have HSZ := Lib.hid (Wm.enc_length_le ln)
 obtain ⟨sr, hsr⟩ : ∃ sr, sr = str (Tt.packText L P) := ⟨_, rfl⟩
 rw [← hsr]
 have HSR := Lib.hid (show str (Wm.enc ln ++ Tt.leavesText L ++ Tt.parentsText P) = sr by rw [hsr, Tt.packText, hln])
 have hw0 := htab.lt
 clear hlc hpc hF hls hln hpn hsr hr
 have k1 := (Kept.refl w.heap.size w.heap.size w).alloc (Nat.le_refl _) (.cells #[.slice lad ln lc, .slice pad pn pc] 27)
 have t1 := heap_new w (.cells #[.slice lad ln lc, .slice pad pn pc] 27)
 go_enter Tryz.func20, Tryz.ntmps20
 go_upto_region 1 with fail
 generalize w.alloc (.cells #[.slice lad ln lc, .slice pad pn pc] 27) = w1 at k1 t1 ⊢
 obtain ⟨tb, htb⟩ : ∃ tb, tb = w.heap.size := ⟨_, rfl⟩
 have HTB := Lib.hid (show w.heap.size ≤ tb by omega)
 rw [← htb] at t1
 (try rw [← htb])
 have K1 := Lib.hid k1
 have T1 := Lib.hid t1
 clear k1 t1 htb
 refine wp_region_lit ?_
 refine @wpList_load_known _ _ _ _ _ _ _ ?hw60002 27 (.tmp 1) rfl (tb) (0) rfl (.agg #[.slice lad ln lc, .slice pad pn pc]) (run_loadVar_row w1 tb 27 27 _ (0, 0) _ T1.out Tryz.underlying27 rfl treeInfo) ?_
 case hw60002 => kernel_rfl
 simp only [Act.put, List.setIfInBounds_toArray, List.set_cons_zero, List.set_cons_succ]
 refine @BigFrame.wpList_want _ _ _ _ _ _ _ ?hw60001 ?_
 case hw60001 => kernel_rfl
 intro K hK
 go_simp
 go_at_call 11
 refine (HRR.out _ K1.out).mono ?_
 rintro e w2 ⟨rfl, k2⟩
 have K2 := Lib.hid (K1.out.next1 k2)
 have T2 := Lib.hid ((k2.block tb (lt_of_block T1.out) (Nat.ne_of_lt (lt_of_block T1.out))).trans T1.out)
 clear k2
 refine hK _ _ ?_
 clear hK K
 refine @BigFrame.wpList_want _ _ _ _ _ _ _ ?hw60003 ?_
 case hw60003 => kernel_rfl
 intro K hK
 go_simp
 refine hK _ _ ?_
 clear hK K
 have HTAB := Lib.hid (htab.kept K2.out hw0 hw0)
 have HWS := Lib.hid K2.out.size
 go_upto_region 3 with fail
 refine wp_region_lit ?_
 refine @BigFrame.wpList_want _ _ _ _ _ _ _ ?hw60004 ?_
 case hw60004 => kernel_rfl
 intro K hK
 go_simp
 go_at_call 59
 refine (new_calls w2).mono ?_
 rintro e w3 ⟨rfl, wr3, k3, s3⟩
 refine hK _ _ ?_
 clear hK K
 obtain ⟨wb, hwb⟩ : ∃ wb, wb = w2.heap.size := ⟨_, rfl⟩
 have hpos : 0 < w2.heap.size := HTAB.out.lt
 have tab3 := HTAB.out.kept k3 hpos hpos
 have U3 := Lib.hid (Pu.start (base := w2.heap.size + 1) (b := w2.heap.size) (s := []) wr3 tab3 hpos)
 have K3 := Lib.hid (K2.out.next1 k3)
 have T3 := Lib.hid ((k3.block tb (lt_of_block T2.out) (Nat.ne_of_lt (lt_of_block T2.out))).trans T2.out)
 obtain ⟨base, hbase⟩ : ∃ base, base = w2.heap.size + 1 := ⟨_, rfl⟩
 have HBT := Lib.hid (show tb < base ∧ tb ≠ wb by have := lt_of_block T2.out; omega)
 have HBW := Lib.hid (show ∀ g, g < w.heap.size → g < base ∧ g ≠ wb from fun g hg => by have := HWS.out; omega)
 rw [← hwb] at U3 hbase
 rw [← hbase] at U3
 rw [← hwb]
 have HTT := Lib.hid (fun (t : List UInt8) (x : World) (u : Pu w3 base wb t x) => (u.kp.block tb HBT.out.1 HBT.out.2).trans T3.out)
 have HKW := Lib.hid (fun (t : List UInt8) (x : World) (u : Pu w3 base wb t x) => (show Kept w.heap.size w.heap.size w x from K3.out.trans (u.kp.mono (by have := HBT.out; have := HTB.out; omega) (fun i hi _ => (HBW.out i hi).2))))
 clear wr3 k3 s3 tab3 hwb hbase T1 T2 K1 K2 HTAB hpos htab hw0
 refine @BigFrame.wpList_want _ _ _ _ _ _ _ ?hw60005 ?_
 case hw60005 => kernel_rfl
 intro K hK
 go_simp
 refine hK _ _ ?_
 clear hK K
 have t0 := two_cell0 (HTT.out _ _ U3.out)
 go_upto_region 4 with fail
 refine wp_region_lit ?_
 refine @BigFrame.wpList_want _ _ _ _ _ _ _ ?hw60007 ?_
 case hw60007 => kernel_rfl
 intro K hK
 go_simp
 refine hK _ _ ?_
 clear hK K
 refine @BigFrame.wpList_want _ _ _ _ _ _ _ ?hw60008 ?_
 case hw60008 => kernel_rfl
 intro K hK
 go_simp
 refine hK _ _ ?_
 clear hK K
 refine @BigFrame.wpList_want _ _ _ _ _ _ _ ?hw60009 ?_
 case hw60009 => kernel_rfl
 intro K hK
 go_simp
 refine hK _ _ ?_
 clear hK K
 refine @BigFrame.wpList_want _ _ _ _ _ _ _ ?hw60010 ?_
 case hw60010 => kernel_rfl
 intro K hK
 go_simp
 refine hK _ _ ?_
 clear hK K
 refine @BigFrame.wpList_want _ _ _ _ _ _ _ ?hw60006 ?_
 case hw60006 => kernel_rfl
 intro K hK
 go_simp
 go_at_call 60
 refine (U3.out.num ln (by omega) (Nat.zero_le _)).mono ?_
 rintro e w4 ⟨rfl, u4⟩
 have U4 : Hid (Pu w3 base wb (Wm.enc ln ++ Tt.leavesText (L.take 0)) w4) := Lib.hid (by
  rw [List.nil_append] at u4
  rw [List.take_zero]
  exact (List.append_nil (Wm.enc ln)).symm ▸ u4)
 clear u4 t0
 refine hK _ _ ?_
 clear hK K
 have t0 := two_cell0 (HTT.out _ _ U4.out)
 go_upto_region 5 with fail
 refine wp_region_lit ?_
 refine @BigFrame.wpList_want _ _ _ _ _ _ _ ?hw60011 ?_
 case hw60011 => kernel_rfl
 intro K hK
 go_simp
 refine hK _ _ ?_
 clear hK K
 refine @BigFrame.wpList_want _ _ _ _ _ _ _ ?hw60012 ?_
 case hw60012 => kernel_rfl
 intro K hK
 go_simp
 refine hK _ _ ?_
 clear hK K
 refine @BigFrame.wpList_want _ _ _ _ _ _ _ ?hw60013 ?_
 case hw60013 => kernel_rfl
 intro K hK
 go_simp
 refine hK _ _ ?_
 clear hK K
 refine @BigFrame.wpList_want _ _ _ _ _ _ _ ?hw60014 ?_
 case hw60014 => kernel_rfl
 intro K hK
 go_simp
 refine hK _ _ ?_
 clear hK K
 clear t0
 go_wp2
 go_loopw [20] (fun s20 wr => ∃ i : Nat, s20 = .int .i64 (i : Int) ∧ Hid (i ≤ ln) ∧ Hid (Pu w3 base wb (Wm.enc ln ++ Tt.leavesText (L.take i)) wr)) (fun s20 _ => ln - (RowKit.intOf s20).toNat)
 case atStart => exact ⟨0, rfl, Lib.hid (Nat.zero_le _), U4⟩
 case round =>
  clear U4
  obtain ⟨i, rfl, hi, HU⟩ := hrel
  by_cases hlt : i < ln
  ·have hiL : i < L.length := by rw [← HLN.out]; exact hlt
   have hlti : (i : Int) < (ln : Int) := by omega
   have hi0 : ¬ (i : Int) < 0 := by omega
   obtain ⟨hlad, hg, hok, hr⟩ := HLC.out i hiL
   subst hlad
   obtain ⟨hnm0, hnm1⟩ := HF.out.nms _ (List.getElem_mem hiL)
   have HTL := Lib.hid (show (Wm.enc ln ++ Tt.leavesText (L.take i)).length ≤ 90000 by
    have h1 := HLT1.out i
    rw [List.length_take] at h1
    rw [List.length_append]
    have := HSZ.out
    omega)
   have HLF := Lib.hid (fun (x : World) (u : Pu w3 base wb (Wm.enc ln ++ Tt.leavesText (L.take i)) x) => putleaf_calls w3 base wb _ L[i] hok hnm0 hnm1 x u HTL.out)
   have HTK := Lib.hid (show Wm.enc ln ++ Tt.leavesText (L.take i) ++ Tt.leafText L[i] = Wm.enc ln ++ Tt.leavesText (L.take (i + 1)) by
    rw [List.take_succ_eq_append_getElem hiL, Tt.leavesText_snoc, ← List.append_assoc])
   rw [HTK.out] at HLF
   have hsz := Lf.size hok
   have HAL := Lib.hid L[i].all
   obtain ⟨ct, hct⟩ : ∃ ct, ct = L[i].cells := ⟨_, rfl⟩
   rw [← hct] at HLF hr hsz HAL
   have HSZ0 := Lib.hid hsz
   have HINF := Lib.hid (show (Tryz.prog.info? 48).map (·.size) = some ct.length by have := leafInfo hsz; simpa using this)
   have HLD := Lib.hid (fun (x : World) (k : Kept w.heap.size w.heap.size w x) => run_loadVar_mid x lg (lo + i * 97) 48 ct _ (rangeAt_kept k hr hg (Nat.ne_of_lt hg)) Tryz.underlying48 rfl HINF.out)
   obtain ⟨tx, htx⟩ : ∃ tx, tx = Wm.enc ln ++ Tt.leavesText (L.take i) := ⟨_, rfl⟩
   obtain ⟨ty, hty⟩ : ∃ ty, ty = Wm.enc ln ++ Tt.leavesText (L.take (i + 1)) := ⟨_, rfl⟩
   rw [← htx, ← hty] at HLF
   rw [← htx] at HU
   have HTY := Lib.hid hty
   have HLTT := Lib.hid hlt
   clear hlt hi hiL hg hok hr hnm0 hnm1 hsz hct htx hty HTK HTL
   go_upto_region 7 with fail
   refine wp_region_lit ?_
   refine @BigFrame.wpList_want _ _ _ _ _ _ _ ?hw60015 ?_
   case hw60015 => kernel_rfl
   intro K hK
   go_simp
   refine hK _ _ ?_
   clear hK K
   refine @wpList_load_known _ _ _ _ _ _ _ ?hw60016 48 (.tmp 22) rfl (lg) (lo + i * 97) rfl (.agg ct.toArray) (HLD.out _ (HKW.out _ _ HU.out)) ?_
   case hw60016 => kernel_rfl
   simp only [Act.put, List.setIfInBounds_toArray, List.set_cons_zero, List.set_cons_succ]
   refine @wpL_alloc _ _ _ _ _ _ _ _ ?hw60017 48 rfl _ (alloc_leaf _) ?_
   case hw60017 => kernel_rfl
   simp only [Act.put, List.setIfInBounds_toArray, List.set_cons_zero, List.set_cons_succ]
   refine wpList_store_row rfl 48 _ _ rfl (wr.heap.size) ct.toArray rfl rfl 48 Lf.zero.cells.toArray (heap_new _ _) (leafInfo HSZ0.out) (by rw [HSZ0.out]; exact Lf.size Lf.zero_ok) (HAL.out) ?_
   simp only [Act.put]
   rw [World.setRow_alloc_new]
   have U6 := Lib.hid (HU.out.kept ((Kept.refl wr.heap.size wr.heap.size wr).alloc (Nat.le_refl _) (.cells ct.toArray 48)))
   have B6 := Lib.hid (heap_new wr (.cells ct.toArray 48))
   generalize wr.alloc (.cells ct.toArray 48) = w6 at U6 B6 ⊢
   obtain ⟨b6, hb6⟩ : ∃ b6, b6 = wr.heap.size := ⟨_, rfl⟩
   rw [← hb6] at B6
   (try rw [← hb6])
   clear hb6
   go_upto_region 8 with fail
   refine wp_region_lit ?_
   refine @BigFrame.wpList_want _ _ _ _ _ _ _ ?hw60019 ?_
   case hw60019 => kernel_rfl
   intro K hK
   go_simp
   refine hK _ _ ?_
   clear hK K
   refine @wpList_load_known _ _ _ _ _ _ _ ?hw60020 48 (.tmp 5) rfl (b6) (0) rfl (.agg ct.toArray) (run_loadVar_row w6 b6 48 48 _ (0, 0) _ B6.out Tryz.underlying48 rfl (leafInfo HSZ0.out)) ?_
   case hw60020 => kernel_rfl
   simp only [Act.put, List.setIfInBounds_toArray, List.set_cons_zero, List.set_cons_succ]
   refine @BigFrame.wpList_want _ _ _ _ _ _ _ ?hw60018 ?_
   case hw60018 => kernel_rfl
   intro K hK
   go_simp
   go_at_call 61
   refine (HLF.out _ U6.out).mono ?_
   rintro e w8 ⟨rfl, u8⟩
   rw [HTY.out] at u8
   have U8 := Lib.hid u8
   clear u8
   refine hK _ _ ?_
   clear hK K
   go_wp2
   go_roundw
   case rel => exact ⟨i + 1, by simp, Lib.hid HLTT.out, U8⟩
   case measure => have := HLTT.out; simp [RowKit.intOf]; omega
  ·have hnl : ¬ (i : Int) < (ln : Int) := by omega
   have HU5 : Hid (Pu w3 base wb (Wm.enc ln ++ Tt.leavesText L ++ Tt.parentsText (P.take 0)) wr) := Lib.hid (by
    have hu := HU.out
    rw [List.take_of_length_le (by have := hi.out; have := HLN.out; omega)] at hu
    rw [List.take_zero]
    exact (List.append_nil (Wm.enc ln ++ Tt.leavesText L)).symm ▸ hu)
   have t0 := two_cell1 (HTT.out _ _ HU5.out)
   clear hlt hi HU
   go_upto_region 10 with fail
   refine wp_region_lit ?_
   refine @BigFrame.wpList_want _ _ _ _ _ _ _ ?hw60027 ?_
   case hw60027 => kernel_rfl
   intro K hK
   go_simp
   refine hK _ _ ?_
   clear hK K
   refine @BigFrame.wpList_want _ _ _ _ _ _ _ ?hw60028 ?_
   case hw60028 => kernel_rfl
   intro K hK
   go_simp
   refine hK _ _ ?_
   clear hK K
   refine @BigFrame.wpList_want _ _ _ _ _ _ _ ?hw60029 ?_
   case hw60029 => kernel_rfl
   intro K hK
   go_simp
   refine hK _ _ ?_
   clear hK K
   refine @BigFrame.wpList_want _ _ _ _ _ _ _ ?hw60030 ?_
   case hw60030 => kernel_rfl
   intro K hK
   go_simp
   refine hK _ _ ?_
   clear hK K
   clear t0 hnl
   go_wp2
   go_loopw [31] (fun s31 wr => ∃ j : Nat, s31 = .int .i64 (j : Int) ∧ Hid (j ≤ pn) ∧ Hid (Pu w3 base wb (Wm.enc ln ++ Tt.leavesText L ++ Tt.parentsText (P.take j)) wr)) (fun s31 _ => pn - (RowKit.intOf s31).toNat)
   case atStart => exact ⟨0, rfl, Lib.hid (Nat.zero_le _), HU5⟩
   case round =>
    clear HU5
    obtain ⟨j, rfl, hi, HU⟩ := hrel
    by_cases hlt : j < pn
    ·have hiL : j < P.length := by rw [← HPN.out]; exact hlt
     have hlti : (j : Int) < (pn : Int) := by omega
     have hi0 : ¬ (j : Int) < 0 := by omega
     obtain ⟨hpad, hg, hok, sl, hr, hnums⟩ := HPC.out j hiL
     subst hpad
     have hlse := HF.out.lse _ (List.getElem_mem hiL)
     have hl9 := HF.out.len _ (List.getElem_mem hiL)
     have HTL := Lib.hid (show (Wm.enc ln ++ Tt.leavesText L ++ Tt.parentsText (P.take j)).length ≤ 80000 by
      have h1 := HLT1.out ln
      have h2 := HPT1.out j
      rw [List.length_take] at h1 h2
      rw [HLN.out, List.take_length] at h1
      rw [List.length_append, List.length_append]
      have := HSZ.out
      have := HLN.out
      omega)
     have HLF := Lib.hid (fun (x : World) (u : Pu w3 base wb (Wm.enc ln ++ Tt.leavesText L ++ Tt.parentsText (P.take j)) x) => putparent_calls w3 base wb _ P[j] hok sl x u HTL.out (hnums.kept K3.out) (fun i g o he h0 => by
      obtain ⟨sad, sc, ng, no, hsl, hnc⟩ := hnums
      obtain ⟨e1, e2, _⟩ := hnc 0 h0
      rw [hsl, e1] at he
      injection he with he _ _
      injection he with he
      injection he with he _ _
      rw [← he]
      exact HBW.out ng e2) hl9 hlse)
     have HTK := Lib.hid (show Wm.enc ln ++ Tt.leavesText L ++ Tt.parentsText (P.take j) ++ Tt.parentText P[j] = Wm.enc ln ++ Tt.leavesText L ++ Tt.parentsText (P.take (j + 1)) by
      rw [List.take_succ_eq_append_getElem hiL, Tt.parentsText_snoc, ← List.append_assoc])
     rw [HTK.out] at HLF
     have hsz := Pr.size hok sl
     have HAL := Lib.hid (show (P[j].cells sl).toArray.all (·.oneCell') = true by
      obtain ⟨sad, sc, ng, no, rfl, _⟩ := hnums
      exact P[j].all _ _ _)
     obtain ⟨ct, hct⟩ : ∃ ct, ct = P[j].cells sl := ⟨_, rfl⟩
     rw [← hct] at HLF hr hsz HAL
     have HSZ0 := Lib.hid hsz
     have HINF := Lib.hid (show (Tryz.prog.info? 75).map (·.size) = some ct.length by have := parentInfo hsz; simpa using this)
     have HLD := Lib.hid (fun (x : World) (k : Kept w.heap.size w.heap.size w x) => run_loadVar_mid x pg (po + j * 66) 75 ct _ (rangeAt_kept k hr hg (Nat.ne_of_lt hg)) Tryz.underlying75 rfl HINF.out)
     obtain ⟨tx, htx⟩ : ∃ tx, tx = Wm.enc ln ++ Tt.leavesText L ++ Tt.parentsText (P.take j) := ⟨_, rfl⟩
     obtain ⟨ty, hty⟩ : ∃ ty, ty = Wm.enc ln ++ Tt.leavesText L ++ Tt.parentsText (P.take (j + 1)) := ⟨_, rfl⟩
     rw [← htx, ← hty] at HLF
     rw [← htx] at HU
     have HTY := Lib.hid hty
     have HLTT := Lib.hid hlt
     clear hlt hi hiL hg hok hr hnums hlse hl9 hsz hct htx hty HTK HTL
     go_upto_region 12 with fail
     refine wp_region_lit ?_
     refine @BigFrame.wpList_want _ _ _ _ _ _ _ ?hw60021 ?_
     case hw60021 => kernel_rfl
     intro K hK
     go_simp
     refine hK _ _ ?_
     clear hK K
     refine @wpList_load_known _ _ _ _ _ _ _ ?hw60022 75 (.tmp 33) rfl (pg) (po + j * 66) rfl (.agg ct.toArray) (HLD.out _ (HKW.out _ _ HU.out)) ?_
     case hw60022 => kernel_rfl
     simp only [Act.put, List.setIfInBounds_toArray, List.set_cons_zero, List.set_cons_succ]
     refine @wpL_alloc _ _ _ _ _ _ _ _ ?hw60023 75 rfl _ (alloc_parent _) ?_
     case hw60023 => kernel_rfl
     simp only [Act.put, List.setIfInBounds_toArray, List.set_cons_zero, List.set_cons_succ]
     refine wpList_store_row rfl 75 _ _ rfl (wr.heap.size) ct.toArray rfl rfl 75 (Pr.zero.cells (.slice none 0 0)).toArray (heap_new _ _) (parentInfo HSZ0.out) (by rw [HSZ0.out]; exact Pr.size Pr.zero_ok _) (HAL.out) ?_
     simp only [Act.put]
     rw [World.setRow_alloc_new]
     have U6 := Lib.hid (HU.out.kept ((Kept.refl wr.heap.size wr.heap.size wr).alloc (Nat.le_refl _) (.cells ct.toArray 75)))
     have B6 := Lib.hid (heap_new wr (.cells ct.toArray 75))
     generalize wr.alloc (.cells ct.toArray 75) = w6 at U6 B6 ⊢
     obtain ⟨b6, hb6⟩ : ∃ b6, b6 = wr.heap.size := ⟨_, rfl⟩
     rw [← hb6] at B6
     (try rw [← hb6])
     clear hb6
     go_upto_region 13 with fail
     refine wp_region_lit ?_
     refine @BigFrame.wpList_want _ _ _ _ _ _ _ ?hw60025 ?_
     case hw60025 => kernel_rfl
     intro K hK
     go_simp
     refine hK _ _ ?_
     clear hK K
     refine @wpList_load_known _ _ _ _ _ _ _ ?hw60026 75 (.tmp 7) rfl (b6) (0) rfl (.agg ct.toArray) (run_loadVar_row w6 b6 75 75 _ (0, 0) _ B6.out Tryz.underlying75 rfl (parentInfo HSZ0.out)) ?_
     case hw60026 => kernel_rfl
     simp only [Act.put, List.setIfInBounds_toArray, List.set_cons_zero, List.set_cons_succ]
     refine @BigFrame.wpList_want _ _ _ _ _ _ _ ?hw60024 ?_
     case hw60024 => kernel_rfl
     intro K hK
     go_simp
     go_at_call 62
     refine (HLF.out _ U6.out).mono ?_
     rintro e w8 ⟨rfl, u8⟩
     rw [HTY.out] at u8
     have U8 := Lib.hid u8
     clear u8
     refine hK _ _ ?_
     clear hK K
     go_wp2
     go_roundw
     case rel => exact ⟨j + 1, by simp, Lib.hid HLTT.out, U8⟩
     case measure => have := HLTT.out; simp [RowKit.intOf]; omega
    ·have hnl : ¬ (j : Int) < (pn : Int) := by omega
     have HUZ : Hid (Pu w3 base wb (Wm.enc ln ++ Tt.leavesText L ++ Tt.parentsText P) wr) := Lib.hid (by
      have hu := HU.out
      rw [List.take_of_length_le (by have := hi.out; have := HPN.out; omega)] at hu
      exact hu)
     have HWT := Lib.hid (written_calls base wb _ wr HUZ.out.wr)
     rw [HSR.out] at HWT
     have KZ := Lib.hid (HKW.out _ _ HUZ.out)
     clear hlt hi HU
     go_upto_region 15 with fail
     refine wp_region_lit ?_
     refine @BigFrame.wpList_want _ _ _ _ _ _ _ ?hw60032 ?_
     case hw60032 => kernel_rfl
     intro K hK
     go_simp
     refine hK _ _ ?_
     clear hK K
     refine @BigFrame.wpList_want _ _ _ _ _ _ _ ?hw60031 ?_
     case hw60031 => kernel_rfl
     intro K hK
     go_simp
     go_at_call 63
     refine (HWT.out).mono ?_
     rintro e wx ⟨rfl, hwx⟩
     subst wx
     refine hK _ _ ?_
     clear hK K
     refine @BigFrame.wpList_want _ _ _ _ _ _ _ ?hw60033 ?_
     case hw60033 => kernel_rfl
     intro K hK
     go_simp
     refine hK _ _ ?_
     clear hK K
     go_wp2
     go_ret
     exact ⟨rfl, KZ.out⟩
set_option maxRecDepth 100000 in
set_option maxHeartbeats 6400000 in
theorem pack_bad8 (lv pv : Value) (L : List Lf) (P : List Pr) (w : World) (hL : Lvs w lv L) (hP : Pts w pv P) (hn : L.length ≤ 1000) (hp : P.length ≤ 1000) (hpl : ∀ p ∈ P, p.loose.length ≤ 1000) (hr : Tt.right L P = false) :
  Calls Tryz.prog 20 #[.agg #[lv, pv]] w fun e w' => e = .returned (.string ⟨#[]⟩) ∧ Kept w.heap.size w.heap.size w w' := by
 have HRR := Lib.hid (fun (x : World) (k : Kept w.heap.size w.heap.size w x) => right_calls8 lv pv L P x (hL.kept k) (hP.kept k) hn hp hpl)
 rw [hr] at HRR
 obtain ⟨lad, lc, rfl⟩ := hL.shape
 obtain ⟨pad, pc, rfl⟩ := hP.shape
 obtain ⟨ln, hln⟩ : ∃ ln, ln = L.length := ⟨_, rfl⟩
 obtain ⟨pn, hpn⟩ : ∃ pn, pn = P.length := ⟨_, rfl⟩
 rw [← hln, ← hpn] at HRR ⊢
 clear hln hpn hn hp hpl hr hL hP
 have k1 := (Kept.refl w.heap.size w.heap.size w).alloc (Nat.le_refl _) (.cells #[.slice lad ln lc, .slice pad pn pc] 27)
 have t1 := heap_new w (.cells #[.slice lad ln lc, .slice pad pn pc] 27)
 go_enter Tryz.func20, Tryz.ntmps20
 go_upto_region 1 with fail
 generalize w.alloc (.cells #[.slice lad ln lc, .slice pad pn pc] 27) = w1 at k1 t1 ⊢
 obtain ⟨tb, htb⟩ : ∃ tb, tb = w.heap.size := ⟨_, rfl⟩
 have HTB := Lib.hid (show w.heap.size ≤ tb by omega)
 rw [← htb] at t1
 (try rw [← htb])
 have K1 := Lib.hid k1
 have T1 := Lib.hid t1
 clear k1 t1 htb
 refine wp_region_lit ?_
 refine @wpList_load_known _ _ _ _ _ _ _ ?hw60002 27 (.tmp 1) rfl (tb) (0) rfl (.agg #[.slice lad ln lc, .slice pad pn pc]) (run_loadVar_row w1 tb 27 27 _ (0, 0) _ T1.out Tryz.underlying27 rfl treeInfo) ?_
 case hw60002 => kernel_rfl
 simp only [Act.put, List.setIfInBounds_toArray, List.set_cons_zero, List.set_cons_succ]
 refine @BigFrame.wpList_want _ _ _ _ _ _ _ ?hw60001 ?_
 case hw60001 => kernel_rfl
 intro K hK
 go_simp
 go_at_call 11
 refine (HRR.out _ K1.out).mono ?_
 rintro e w2 ⟨rfl, k2⟩
 have K2 := Lib.hid (K1.out.next1 k2)
 have T2 := Lib.hid ((k2.block tb (lt_of_block T1.out) (Nat.ne_of_lt (lt_of_block T1.out))).trans T1.out)
 clear k2
 refine hK _ _ ?_
 clear hK K
 refine @BigFrame.wpList_want _ _ _ _ _ _ _ ?hw60003 ?_
 case hw60003 => kernel_rfl
 intro K hK
 go_simp
 refine hK _ _ ?_
 clear hK K
 go_wp2
 go_ret
 exact ⟨rfl, K2.out⟩

end Go.Proofs.YtilpehpiikdkbaaGreatDoor

namespace Go.Proofs.YtilpehpiikdkbaaGreatDoor
open Go.RowKit Go.Lib

set_option maxRecDepth 100000 in
set_option maxHeartbeats 6400000 in
theorem refpack_calls8 (lv pv : Value) (L : List Lf) (P : List Pr) (hF : Tt.Fine L P) (hls : ∀ p ∈ P, p.loose.length ≤ 64) (w : World) (hL : Lvs w lv L) (hP : Pts w pv P) :
  Calls Tryz.prog 24 #[.agg #[lv, pv]] w fun e w' => e = .returned (.string (str (Tt.packText L P))) ∧ Kept w.heap.size w.heap.size w w' := by
 have HLT1 := Lib.hid (fun i => Tt.leavesText_length (L.take i) (fun l hl => hL.oks l (List.mem_of_mem_take hl)))
 have HPT1 := Lib.hid (fun i => Tt.parentsText_length (P.take i) (fun p hp => ⟨hP.oks p (List.mem_of_mem_take hp), hls p (List.mem_of_mem_take hp)⟩))
 obtain ⟨lad, lg, lo, lc, rfl, hlc, _⟩ := hL
 obtain ⟨pad, pg, po, pc, rfl, hpc, _⟩ := hP
 obtain ⟨ln, hln⟩ : ∃ ln, ln = L.length := ⟨_, rfl⟩
 obtain ⟨pn, hpn⟩ : ∃ pn, pn = P.length := ⟨_, rfl⟩
 have hln9 : ln ≤ 64 := by rw [hln]; exact hF.n64
 have hpn9 : pn ≤ 64 := by have := hF.n64; have := hF.par; omega
 have HLC := Lib.hid hlc
 have HPC := Lib.hid hpc
 have HF := Lib.hid hF
 have HLN := Lib.hid hln
 have HPN := Lib.hid hpn
 rw [← hln, ← hpn]
 obtain ⟨sn, hsn⟩ : ∃ sn, sn = str (Wm.enc ln) := ⟨_, rfl⟩
 have HNU := Lib.hid (fun u => refnum ln u (by omega))
 rw [← hsn] at HNU
 have HS0 := Lib.hid (show sn = str (Wm.enc ln ++ Tt.leavesText (L.take 0)) by rw [hsn, List.take_zero]; exact congrArg str (List.append_nil _).symm)
 have HSZ := Lib.hid (Wm.enc_length_le ln)
 obtain ⟨sr, hsr⟩ : ∃ sr, sr = str (Tt.packText L P) := ⟨_, rfl⟩
 rw [← hsr]
 have HSR := Lib.hid (show str (Wm.enc ln ++ Tt.leavesText L ++ Tt.parentsText P) = sr by rw [hsr, Tt.packText, hln])
 clear hlc hpc hF hls hln hpn hsn hsr
 have k1 := (Kept.refl w.heap.size w.heap.size w).alloc (Nat.le_refl _) (.cells #[.slice lad ln lc, .slice pad pn pc] 27)
 have t1 := heap_new w (.cells #[.slice lad ln lc, .slice pad pn pc] 27)
 go_enter Tryz.func24, Tryz.ntmps24
 go_upto_region 1 with fail
 generalize w.alloc (.cells #[.slice lad ln lc, .slice pad pn pc] 27) = w1 at k1 t1 ⊢
 obtain ⟨tb, htb⟩ : ∃ tb, tb = w.heap.size := ⟨_, rfl⟩
 rw [← htb] at t1
 (try rw [← htb])
 have K1 := Lib.hid k1
 have HT := Lib.hid (fun (x : World) (k : Kept w1.heap.size w1.heap.size w1 x) => (k.block tb (lt_of_block t1) (Nat.ne_of_lt (lt_of_block t1))).trans t1)
 have t0 := two_cell0 t1
 clear k1 htb t1
 refine wp_region_lit ?_
 refine @BigFrame.wpList_want _ _ _ _ _ _ _ ?hw59002 ?_
 case hw59002 => kernel_rfl
 intro K hK
 go_simp
 refine hK _ _ ?_
 clear hK K
 refine @BigFrame.wpList_want _ _ _ _ _ _ _ ?hw59003 ?_
 case hw59003 => kernel_rfl
 intro K hK
 go_simp
 refine hK _ _ ?_
 clear hK K
 refine @BigFrame.wpList_want _ _ _ _ _ _ _ ?hw59004 ?_
 case hw59004 => kernel_rfl
 intro K hK
 go_simp
 refine hK _ _ ?_
 clear hK K
 refine @BigFrame.wpList_want _ _ _ _ _ _ _ ?hw59001 ?_
 case hw59001 => kernel_rfl
 intro K hK
 go_simp
 go_at_call 64
 refine (HNU.out _).mono ?_
 rintro e w2 ⟨rfl, k2⟩
 have KX := Lib.hid k2
 clear k2
 refine hK _ _ ?_
 clear hK K
 refine @BigFrame.wpList_want _ _ _ _ _ _ _ ?hw59005 ?_
 case hw59005 => kernel_rfl
 intro K hK
 go_simp
 refine hK _ _ ?_
 clear hK K
 clear t0
 go_wp2
 go_loopw [3, 4] (fun s3 s4 wr => ∃ i : Nat, s3 = .string (str (Wm.enc ln ++ Tt.leavesText (L.take i))) ∧ s4 = .int .i64 (i : Int) ∧ Hid (i ≤ ln) ∧ Hid (Kept w1.heap.size w1.heap.size w1 wr)) (fun _ s4 _ => ln - (RowKit.intOf s4).toNat)
 case atStart => exact ⟨0, by rw [HS0.out], rfl, Lib.hid (Nat.zero_le _), KX⟩
 case round =>
  clear KX HS0 HNU
  obtain ⟨i, rfl, rfl, hi, HK⟩ := hrel
  by_cases hlt : i < ln
  ·have hiL : i < L.length := by rw [← HLN.out]; exact hlt
   have t0 := two_cell0 (HT.out _ HK.out)
   have hlti : (i : Int) < (ln : Int) := by omega
   have hi0 : ¬ (i : Int) < 0 := by omega
   obtain ⟨hlad, hg, hok, hr⟩ := HLC.out i hiL
   subst hlad
   obtain ⟨hnm0, hnm1⟩ := HF.out.nms _ (List.getElem_mem hiL)
   have HLF := Lib.hid (fun u => refleaf_calls L[i] hok hnm0 hnm1 u)
   have HTK := Lib.hid (show str (Wm.enc ln ++ Tt.leavesText (L.take i)) ++ str (Tt.leafText L[i]) = str (Wm.enc ln ++ Tt.leavesText (L.take (i + 1))) by
    rw [List.take_succ_eq_append_getElem hiL, Tt.leavesText_snoc, str_append, ← List.append_assoc])
   have hlen := Tt.leafText_length hok
   have hsz := Lf.size hok
   obtain ⟨ct, hct⟩ : ∃ ct, ct = L[i].cells := ⟨_, rfl⟩
   rw [← hct] at HLF hr hsz
   have HINF := Lib.hid (show (Tryz.prog.info? 48).map (·.size) = some ct.length by have := leafInfo hsz; simpa using this)
   have HLD := Lib.hid (fun (x : World) (k : Kept w1.heap.size w1.heap.size w1 x) => run_loadVar_mid x lg (lo + i * 97) 48 ct _ (rangeAt_kept (K1.out.next1 k) hr hg (Nat.ne_of_lt hg)) Tryz.underlying48 rfl HINF.out)
   obtain ⟨sy, hsy⟩ : ∃ sy, sy = str (Tt.leafText L[i]) := ⟨_, rfl⟩
   obtain ⟨sx, hsx⟩ : ∃ sx, sx = str (Wm.enc ln ++ Tt.leavesText (L.take i)) := ⟨_, rfl⟩
   rw [← hsy] at HLF HTK
   rw [← hsx] at HTK ⊢
   have z1 : sx.size ≤ 13000 := by
    have h1 := HLT1.out i
    rw [List.length_take] at h1
    rw [hsx, str_size, List.length_append]
    have := HSZ.out
    omega
   have z2 : sy.size ≤ 200 := by rw [hsy, str_size]; exact hlen
   have q1 : ¬ 9223372036854775807 < sx.size + sy.size := by omega
   have HLTT := Lib.hid hlt
   clear hlt hi hiL hg hok hr hnm0 hnm1 hlen hsz hct hsy hsx z1 z2
   go_upto_region 5 with fail
   refine wp_region_lit ?_
   refine @BigFrame.wpList_want _ _ _ _ _ _ _ ?hw59008 ?_
   case hw59008 => kernel_rfl
   intro K hK
   go_simp
   refine hK _ _ ?_
   clear hK K
   refine @BigFrame.wpList_want _ _ _ _ _ _ _ ?hw59009 ?_
   case hw59009 => kernel_rfl
   intro K hK
   go_simp
   refine hK _ _ ?_
   clear hK K
   refine @BigFrame.wpList_want _ _ _ _ _ _ _ ?hw59010 ?_
   case hw59010 => kernel_rfl
   intro K hK
   go_simp
   refine hK _ _ ?_
   clear hK K
   refine @BigFrame.wpList_want _ _ _ _ _ _ _ ?hw59011 ?_
   case hw59011 => kernel_rfl
   intro K hK
   go_simp
   refine hK _ _ ?_
   clear hK K
   refine @BigFrame.wpList_want _ _ _ _ _ _ _ ?hw59012 ?_
   case hw59012 => kernel_rfl
   intro K hK
   go_simp
   refine hK _ _ ?_
   clear hK K
   refine @wpList_load_known _ _ _ _ _ _ _ ?hw59013 48 (.tmp 21) rfl (lg) (lo + i * 97) rfl (.agg ct.toArray) (HLD.out _ HK.out) ?_
   case hw59013 => kernel_rfl
   simp only [Act.put, List.setIfInBounds_toArray, List.set_cons_zero, List.set_cons_succ]
   refine @BigFrame.wpList_want _ _ _ _ _ _ _ ?hw59007 ?_
   case hw59007 => kernel_rfl
   intro K hK
   go_simp
   go_at_call 65
   refine (HLF.out _).mono ?_
   rintro e w8 ⟨rfl, k8⟩
   have K8 := Lib.hid (HK.out.next1 k8)
   clear k8
   refine hK _ _ ?_
   clear hK K
   refine @BigFrame.wpList_want _ _ _ _ _ _ _ ?hw59014 ?_
   case hw59014 => kernel_rfl
   intro K hK
   go_simp
   refine hK _ _ ?_
   clear hK K
   refine @BigFrame.wpList_want _ _ _ _ _ _ _ ?hw59015 ?_
   case hw59015 => kernel_rfl
   intro K hK
   go_simp
   refine hK _ _ ?_
   clear hK K
   rw [HTK.out]
   clear t0 q1
   go_wp2
   go_roundw
   case rel => exact ⟨i + 1, rfl, by simp, Lib.hid HLTT.out, K8⟩
   case measure => have := HLTT.out; simp [RowKit.intOf]; omega
  ·have hnl : ¬ (i : Int) < (ln : Int) := by omega
   have t0 := two_cell0 (HT.out _ HK.out)
   have HS2 := Lib.hid (show str (Wm.enc ln ++ Tt.leavesText (L.take i)) = str (Wm.enc ln ++ Tt.leavesText L ++ Tt.parentsText (P.take 0)) by
    rw [List.take_of_length_le (by have := hi.out; have := HLN.out; omega), List.take_zero]
    exact congrArg str (List.append_nil _).symm)
   obtain ⟨sx, hsx⟩ : ∃ sx, sx = str (Wm.enc ln ++ Tt.leavesText (L.take i)) := ⟨_, rfl⟩
   rw [← hsx] at HS2 ⊢
   clear hsx hlt hi
   go_wp2
   go_loopw [3, 5] (fun s3 s5 wr => ∃ j : Nat, s3 = .string (str (Wm.enc ln ++ Tt.leavesText L ++ Tt.parentsText (P.take j))) ∧ s5 = .int .i64 (j : Int) ∧ Hid (j ≤ pn) ∧ Hid (Kept w1.heap.size w1.heap.size w1 wr)) (fun _ s5 _ => pn - (RowKit.intOf s5).toNat)
   case atStart => exact ⟨0, by rw [HS2.out], rfl, Lib.hid (Nat.zero_le _), HK⟩
   case round =>
    clear HK HS2
    obtain ⟨j, rfl, rfl, hi, HK⟩ := hrel
    by_cases hlt : j < pn
    ·have hiL : j < P.length := by rw [← HPN.out]; exact hlt
     have t0 := two_cell1 (HT.out _ HK.out)
     have hlti : (j : Int) < (pn : Int) := by omega
     have hi0 : ¬ (j : Int) < 0 := by omega
     obtain ⟨hpad, hg, hok, sl, hr, hnums⟩ := HPC.out j hiL
     subst hpad
     have hlse := HF.out.lse _ (List.getElem_mem hiL)
     have hl9 := HF.out.len _ (List.getElem_mem hiL)
     have HLF := Lib.hid (fun (x : World) (k : Kept w1.heap.size w1.heap.size w1 x) => refparent_calls P[j] hok sl x (hnums.kept (K1.out.next1 k)) hl9 hlse)
     have HTK := Lib.hid (show str (Wm.enc ln ++ Tt.leavesText L ++ Tt.parentsText (P.take j)) ++ str (Tt.parentText P[j]) = str (Wm.enc ln ++ Tt.leavesText L ++ Tt.parentsText (P.take (j + 1))) by
      rw [List.take_succ_eq_append_getElem hiL, Tt.parentsText_snoc, str_append, ← List.append_assoc])
     have hlen := Tt.parentText_length hok hl9
     have hsz := Pr.size hok sl
     obtain ⟨ct, hct⟩ : ∃ ct, ct = P[j].cells sl := ⟨_, rfl⟩
     rw [← hct] at HLF hr hsz
     have HINF := Lib.hid (show (Tryz.prog.info? 75).map (·.size) = some ct.length by have := parentInfo hsz; simpa using this)
     have HLD := Lib.hid (fun (x : World) (k : Kept w1.heap.size w1.heap.size w1 x) => run_loadVar_mid x pg (po + j * 66) 75 ct _ (rangeAt_kept (K1.out.next1 k) hr hg (Nat.ne_of_lt hg)) Tryz.underlying75 rfl HINF.out)
     obtain ⟨sy, hsy⟩ : ∃ sy, sy = str (Tt.parentText P[j]) := ⟨_, rfl⟩
     obtain ⟨sx, hsx⟩ : ∃ sx, sx = str (Wm.enc ln ++ Tt.leavesText L ++ Tt.parentsText (P.take j)) := ⟨_, rfl⟩
     rw [← hsy] at HLF HTK
     rw [← hsx] at HTK ⊢
     have z1 : sx.size ≤ 60000 := by
      have h1 := HLT1.out ln
      have h2 := HPT1.out j
      rw [List.length_take] at h1 h2
      rw [HLN.out, List.take_length] at h1
      rw [hsx, str_size, List.length_append, List.length_append]
      have := HSZ.out
      have := HLN.out
      omega
     have z2 : sy.size ≤ 10000 := by rw [hsy, str_size]; exact hlen
     have q1 : ¬ 9223372036854775807 < sx.size + sy.size := by omega
     have HLTT := Lib.hid hlt
     clear hlt hi hiL hg hok hr hnums hlse hl9 hlen hsz hct hsy hsx z1 z2
     go_upto_region 9 with fail
     refine wp_region_lit ?_
     refine @BigFrame.wpList_want _ _ _ _ _ _ _ ?hw59018 ?_
     case hw59018 => kernel_rfl
     intro K hK
     go_simp
     refine hK _ _ ?_
     clear hK K
     refine @BigFrame.wpList_want _ _ _ _ _ _ _ ?hw59019 ?_
     case hw59019 => kernel_rfl
     intro K hK
     go_simp
     refine hK _ _ ?_
     clear hK K
     refine @BigFrame.wpList_want _ _ _ _ _ _ _ ?hw59020 ?_
     case hw59020 => kernel_rfl
     intro K hK
     go_simp
     refine hK _ _ ?_
     clear hK K
     refine @BigFrame.wpList_want _ _ _ _ _ _ _ ?hw59021 ?_
     case hw59021 => kernel_rfl
     intro K hK
     go_simp
     refine hK _ _ ?_
     clear hK K
     refine @BigFrame.wpList_want _ _ _ _ _ _ _ ?hw59022 ?_
     case hw59022 => kernel_rfl
     intro K hK
     go_simp
     refine hK _ _ ?_
     clear hK K
     refine @wpList_load_known _ _ _ _ _ _ _ ?hw59023 75 (.tmp 36) rfl (pg) (po + j * 66) rfl (.agg ct.toArray) (HLD.out _ HK.out) ?_
     case hw59023 => kernel_rfl
     simp only [Act.put, List.setIfInBounds_toArray, List.set_cons_zero, List.set_cons_succ]
     refine @BigFrame.wpList_want _ _ _ _ _ _ _ ?hw59017 ?_
     case hw59017 => kernel_rfl
     intro K hK
     go_simp
     go_at_call 66
     refine (HLF.out _ HK.out).mono ?_
     rintro e w8 ⟨rfl, k8⟩
     have K8 := Lib.hid (HK.out.next1 k8)
     clear k8
     refine hK _ _ ?_
     clear hK K
     refine @BigFrame.wpList_want _ _ _ _ _ _ _ ?hw59024 ?_
     case hw59024 => kernel_rfl
     intro K hK
     go_simp
     refine hK _ _ ?_
     clear hK K
     refine @BigFrame.wpList_want _ _ _ _ _ _ _ ?hw59025 ?_
     case hw59025 => kernel_rfl
     intro K hK
     go_simp
     refine hK _ _ ?_
     clear hK K
     rw [HTK.out]
     clear t0 q1
     go_wp2
     go_roundw
     case rel => exact ⟨j + 1, rfl, by simp, Lib.hid HLTT.out, K8⟩
     case measure => have := HLTT.out; simp [RowKit.intOf]; omega
    ·have hnl : ¬ (j : Int) < (pn : Int) := by omega
     have t0 := two_cell1 (HT.out _ HK.out)
     have HE := Lib.hid (show str (Wm.enc ln ++ Tt.leavesText L ++ Tt.parentsText (P.take j)) = sr by
      rw [← HSR.out, List.take_of_length_le (by have := hi.out; have := HPN.out; omega)])
     rw [HE.out]
     clear hlt hi HE
     go_wp2
     go_ret
     exact ⟨rfl, K1.out.next1 HK.out⟩

end Go.Proofs.YtilpehpiikdkbaaGreatDoor
