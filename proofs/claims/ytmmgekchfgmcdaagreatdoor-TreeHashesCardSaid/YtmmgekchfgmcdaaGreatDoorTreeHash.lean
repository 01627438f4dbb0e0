/-
  The landed Hash and the document's, of a right tree.
-/
import Derived.Test.YtmmgekchfgmcdaaGreatDoorTreeHashOf
import Derived.Test.YtmmgekchfgmcdaaGreatDoorTreeRight
import Derived.Test.YtmmgekchfgmcdaaGreatDoorTreeJoinMath

namespace Go.Proofs.YtmmgekchfgmcdaaGreatDoor
open Go.RowKit Go.Lib

namespace Tt
def noneB : List UInt8 := [110, 111, 110, 101]
def treeHash (L : List Lf) (P : List Pr) : List UInt8 := if L.length = 0 then Sm.sum noneB else hashSeg L P L.length 0 L.length
theorem loose_in (L : List Lf) (b : Int) : ∀ (l : List Int) (f : Int), looseOk L b f l = true → ∀ y ∈ l, f ≤ y ∧ y < b
  | [], _, _ => fun _ h => nomatch h
  | x :: xs, f, h => by
    unfold looseOk at h
    simp only [Bool.and_eq_true, decide_eq_true_eq] at h
    obtain ⟨h1, h2, _, h3⟩ := h
    intro y hy
    rcases List.mem_cons.1 hy with e | e
    · omega
    · have := loose_in L b xs (x + 1) h3 y e; omega
theorem parents_in {L : List Lf} (hn : L.length ≤ 64) : ∀ (P : List Pr) (i : Nat), parentsOk L i P = true → ∀ p ∈ P, ∀ y ∈ p.loose, 0 ≤ y ∧ y ≤ 64
  | [], _, _ => fun _ h => nomatch h
  | q :: P, i, h => by
    unfold parentsOk at h
    rw [Bool.and_eq_true] at h
    intro p hp
    rcases List.mem_cons.1 hp with e | e
    · have h1 := h.1
      unfold parentOk at h1
      rw [e]
      split at h1
      · have hb := Bo.bounds L.length ((2 * i + 1 : Nat) : Int)
        intro y hy
        have := loose_in L _ _ _ h1 y hy
        omega
      · simp only [Bool.and_eq_true, beq_iff_eq] at h1
        rw [List.length_eq_zero_iff.1 h1.2.2]
        exact fun _ h => nomatch h
    · exact parents_in hn P (i + 1) h.2 p e
theorem leaves_in : ∀ (L : List Lf) (M : List Int), leavesOk M L = true → ∀ l ∈ L, 0 ≤ l.name ∧ l.name ≤ 64
  | [], _, _ => fun _ h => nomatch h
  | l :: L, M, h => by
    rw [leavesOk] at h
    intro x hx
    by_cases hs : l.same Lf.zero = true
    · rw [if_pos hs] at h
      rcases List.mem_cons.1 hx with e | e
      · rw [e, Lf.same_iff.1 hs]
        exact ⟨Int.le_refl _, by decide⟩
      · exact leaves_in L M h x e
    · rw [if_neg hs] at h
      simp only [Bool.and_eq_true, decide_eq_true_eq] at h
      obtain ⟨h1, h2, _, h4⟩ := h
      rcases List.mem_cons.1 hx with e | e
      · rw [e]
        exact ⟨by omega, h2⟩
      · exact leaves_in L (l.name :: M) h4 x e
theorem fine_of {L : List Lf} {P : List Pr} (h : right L P = true) : Fine L P := by
  obtain ⟨h1, h2, h3⟩ := right_parts h
  have h4 := h
  simp only [right, Bool.and_eq_true, decide_eq_true_eq] at h4
  exact ⟨h1, h2, leaves_in L [] h4.2.2.2.1, fun p hp => Nat.le_trans (parents_loose h1 P 0 h3 p hp) (by decide), parents_in h1 P 0 h3⟩
end Tt
set_option maxRecDepth 100000 in
set_option maxHeartbeats 6400000 in
theorem rightornone8 (lv pv : Value) (L : List Lf) (P : List Pr) (w : World) (hL : Lvs w lv L) (hP : Pts w pv P) (hn : L.length ≤ 1000) (hp : P.length ≤ 1000) (hpl : ∀ p ∈ P, p.loose.length ≤ 1000) (hr : Tt.right L P = true) :
    Calls Tryz.prog 47 #[.agg #[lv, pv]] w fun e w' => e = .returned (.agg #[lv, pv]) ∧ Kept w.heap.size w.heap.size w w' := by
  have HRR := Lib.hid (fun (x : World) (k : Kept w.heap.size w.heap.size w x) => right_calls8 lv pv L P x (hL.kept k) (hP.kept k) hn hp hpl)
  rw [hr] at HRR
  obtain ⟨lad, lc, rfl⟩ := hL.shape
  obtain ⟨pad, pc, rfl⟩ := hP.shape
  obtain ⟨ln, hln⟩ : ∃ ln, ln = L.length := ⟨_, rfl⟩
  obtain ⟨pn, hpn⟩ : ∃ pn, pn = P.length := ⟨_, rfl⟩
  rw [← hln, ← hpn] at HRR ⊢
  clear hL hP hn hp hpl hr hln hpn
  have k1 := (Kept.refl w.heap.size w.heap.size w).alloc (Nat.le_refl _) (.cells #[.slice lad ln lc, .slice pad pn pc] 27)
  have t1 := heap_new w (.cells #[.slice lad ln lc, .slice pad pn pc] 27)
  have s1 : (w.alloc (.cells #[.slice lad ln lc, .slice pad pn pc] 27)).heap.size = w.heap.size + 1 := by simp
  go_enter Tryz.func47, Tryz.ntmps47
  go_upto_region 1 with fail
  generalize w.alloc (.cells #[.slice lad ln lc, .slice pad pn pc] 27) = wa at k1 t1 s1 ⊢
  have k3 := (Kept.refl wa.heap.size wa.heap.size wa).alloc (Nat.le_refl _) (.cells #[.slice none 0 0, .slice none 0 0] 27)
  have r3 := heap_new wa (.cells #[.slice none 0 0, .slice none 0 0] 27)
  have t3 := (k3.block _ (lt_of_block t1) (Nat.ne_of_lt (lt_of_block t1))).trans t1
  generalize wa.alloc (.cells #[.slice none 0 0, .slice none 0 0] 27) = w1 at k3 r3 t3 ⊢
  have K1 := Lib.hid (k1.next1 k3)
  rw [s1] at r3
  (try rw [s1])
  obtain ⟨tb, htb⟩ : ∃ tb, tb = w.heap.size := ⟨_, rfl⟩
  obtain ⟨rb, hrb⟩ : ∃ rb, rb = w.heap.size + 1 := ⟨_, rfl⟩
  rw [← hrb] at r3
  (try rw [← hrb])
  rw [← htb] at t3
  (try rw [← htb])
  have HRB := Lib.hid (show w.heap.size ≤ rb by omega)
  have T1 := Lib.hid t3
  have R1 := Lib.hid r3
  clear k1 t1 s1 k3 r3 t3 htb hrb
  refine wp_region_lit ?_
  refine @wpList_load_known _ _ _ _ _ _ _ ?hw54002 27 (.tmp 1) rfl (tb) (0) rfl (.agg #[.slice lad ln lc, .slice pad pn pc]) (run_loadVar_row w1 tb 27 27 _ (0, 0) _ T1.out Tryz.underlying27 rfl treeInfo) ?_
  case hw54002 => kernel_rfl
  simp only [Act.put, List.setIfInBounds_toArray, List.set_cons_zero, List.set_cons_succ]
  refine @BigFrame.wpList_want _ _ _ _ _ _ _ ?hw54001 ?_
  case hw54001 => kernel_rfl
  intro K hK
  go_simp
  go_at_call 11
  refine (HRR.out _ K1.out).mono ?_
  rintro e w2 ⟨rfl, k2⟩
  have K2 := Lib.hid (K1.out.next1 k2)
  have T2 := Lib.hid ((k2.block tb (lt_of_block T1.out) (Nat.ne_of_lt (lt_of_block T1.out))).trans T1.out)
  have R2 := Lib.hid ((k2.block rb (lt_of_block R1.out) (Nat.ne_of_lt (lt_of_block R1.out))).trans R1.out)
  clear k2
  refine hK _ _ ?_
  clear hK K
  refine @BigFrame.wpList_want _ _ _ _ _ _ _ ?hw54003 ?_
  case hw54003 => kernel_rfl
  intro K hK
  go_simp
  refine hK _ _ ?_
  clear hK K
  go_upto_region 3 with fail
  refine wp_region_lit ?_
  refine @wpList_load_known _ _ _ _ _ _ _ ?hw54004 27 (.tmp 1) rfl (tb) (0) rfl (.agg #[.slice lad ln lc, .slice pad pn pc]) (run_loadVar_row w2 tb 27 27 _ (0, 0) _ T2.out Tryz.underlying27 rfl treeInfo) ?_
  case hw54004 => kernel_rfl
  simp only [Act.put, List.setIfInBounds_toArray, List.set_cons_zero, List.set_cons_succ]
  refine wpList_store_row rfl 27 _ _ rfl (rb) #[.slice lad ln lc, .slice pad pn pc] rfl rfl 27 #[.slice none 0 0, .slice none 0 0] R2.out treeInfo rfl (tree_all _ _ _ _ _ _) ?_
  simp only [Act.put]
  have R3 := setRow_heap w2 rb _ #[.slice lad ln lc, .slice pad pn pc] _ _ R2.out
  have K3 := Lib.hid (K2.out.grown (grown_setRow w2 rb #[.slice lad ln lc, .slice pad pn pc]) K2.out.size (fun k e => by cases e; exact HRB.out))
  generalize w2.setRow rb #[.slice lad ln lc, .slice pad pn pc] = w3 at R3 K3 ⊢
  go_wp2
  refine bodyPost_ret (results_cell_row rfl _ _ rb 27 _ (0, 0) _ rfl R3 Tryz.underlying27 rfl treeInfo) rfl ?_
  exact ⟨rfl, K3.out⟩

set_option maxRecDepth 100000 in
set_option maxHeartbeats 6400000 in
theorem hash_calls8 (lv pv : Value) (L : List Lf) (P : List Pr) (w : World) (htab : Tab w) (hL : Lvs w lv L) (hP : Pts w pv P) (hr : Tt.right L P = true) :
    Calls Tryz.prog 17 #[.agg #[lv, pv]] w fun e w' => e = .returned (.agg (bcells (Tt.treeHash L P)).toArray) ∧ Kept w.heap.size w.heap.size w w' := by
  have hF := Tt.fine_of hr
  have HRN := Lib.hid (fun (x : World) (k : Kept w.heap.size w.heap.size w x) => rightornone8 lv pv L P x (hL.kept k) (hP.kept k) (Nat.le_trans hF.n64 (by decide)) (by have := hF.n64; have := hF.par; omega) hF.len hr)
  have HH := Lib.hid (fun (h1 : 1 ≤ L.length) (x : World) (ht : Tab x) (k : Kept w.heap.size w.heap.size w x) => hashof_calls L P hF L.length rfl h1 L.length 0 L.length _ _ (Nat.le_refl _) .top lv pv x ht (hL.kept k) (hP.kept k))
  have hth : (Tt.treeHash L P).length = 32 := by
    unfold Tt.treeHash
    split
    · exact sum_len32 _
    · obtain ⟨k, hk⟩ : ∃ k, L.length = k + 1 := ⟨L.length - 1, by omega⟩
      rw [hk]
      exact hashSeg_len L P k _ _
  have HCU := Lib.hid (show (Tt.treeHash L P) = if L.length = 0 then Sm.sum Tt.noneB else Tt.hashSeg L P L.length 0 L.length from rfl)
  have HSN := Lib.hid (fun (blk : Nat) (u : World) h => sum_single Tt.noneB blk u ⟨#[110, 111, 110, 101]⟩ rfl h (by decide))
  obtain ⟨lad, lc, rfl⟩ := hL.shape
  obtain ⟨pad, pc, rfl⟩ := hP.shape
  obtain ⟨ln, hln⟩ : ∃ ln, ln = L.length := ⟨_, rfl⟩
  obtain ⟨pn, hpn⟩ : ∃ pn, pn = P.length := ⟨_, rfl⟩
  have hln9 : ln ≤ 64 := by rw [hln]; exact hF.n64
  obtain ⟨cu, hcu⟩ : ∃ cu, cu = (bcells (Tt.treeHash L P)).toArray := ⟨_, rfl⟩
  have HCS := Lib.hid (show cu.size = 32 by rw [hcu, List.size_toArray, bcells_length, hth])
  have HALL := Lib.hid (show cu.all (·.oneCell') = true by rw [hcu]; exact bcells_all _)
  have HCE := Lib.hid hcu
  rw [← hcu]
  rw [← hln, ← hpn] at HRN ⊢
  rw [← hln] at HH HCU
  rw [← hpn] at HH
  have hw0 := htab.lt
  clear hL hP hr hF hth hln hpn hcu
  have k1 := (Kept.refl w.heap.size w.heap.size w).alloc (Nat.le_refl _) (.cells #[.slice lad ln lc, .slice pad pn pc] 27)
  have t1 := heap_new w (.cells #[.slice lad ln lc, .slice pad pn pc] 27)
  have s1 : (w.alloc (.cells #[.slice lad ln lc, .slice pad pn pc] 27)).heap.size = w.heap.size + 1 := by simp
  go_enter Tryz.func17, Tryz.ntmps17
  go_upto_region 1 with fail
  rw [zeros32_eq]
  generalize w.alloc (.cells #[.slice lad ln lc, .slice pad pn pc] 27) = wa at k1 t1 s1 ⊢
  have k2 := (Kept.refl wa.heap.size wa.heap.size wa).alloc (Nat.le_refl _) (.cells zeros32 39)
  have r2 := heap_new wa (.cells zeros32 39)
  have t2 := (k2.block _ (lt_of_block t1) (Nat.ne_of_lt (lt_of_block t1))).trans t1
  generalize wa.alloc (.cells zeros32 39) = w1 at k2 r2 t2 ⊢
  have K1 := Lib.hid (k1.next1 k2)
  rw [s1] at r2
  (try rw [s1])
  obtain ⟨tb, htb⟩ : ∃ tb, tb = w.heap.size := ⟨_, rfl⟩
  obtain ⟨rb, hrb⟩ : ∃ rb, rb = w.heap.size + 1 := ⟨_, rfl⟩
  rw [← hrb] at r2
  (try rw [← hrb])
  rw [← htb] at t2
  (try rw [← htb])
  have HTR := Lib.hid (show tb ≠ rb by omega)
  have HTB := Lib.hid (show ¬ tb < w.heap.size by omega)
  have HRB := Lib.hid (show ¬ rb < w.heap.size by omega)
  have T1 := Lib.hid t2
  have R1 := Lib.hid r2
  clear k1 t1 s1 k2 r2 t2 htb hrb
  refine wp_region_lit ?_
  refine @wpList_load_known _ _ _ _ _ _ _ ?hw54006 27 (.tmp 1) rfl (tb) (0) rfl (.agg #[.slice lad ln lc, .slice pad pn pc]) (run_loadVar_row w1 tb 27 27 _ (0, 0) _ T1.out Tryz.underlying27 rfl treeInfo) ?_
  case hw54006 => kernel_rfl
  simp only [Act.put, List.setIfInBounds_toArray, List.set_cons_zero, List.set_cons_succ]
  refine @BigFrame.wpList_want _ _ _ _ _ _ _ ?hw54005 ?_
  case hw54005 => kernel_rfl
  intro K hK
  go_simp
  go_at_call 47
  refine (HRN.out _ K1.out).mono ?_
  rintro e w2 ⟨rfl, k2⟩
  have K2 := Lib.hid (K1.out.next1 k2)
  have T2 := Lib.hid ((k2.block tb (lt_of_block T1.out) (Nat.ne_of_lt (lt_of_block T1.out))).trans T1.out)
  have R2 := Lib.hid ((k2.block rb (lt_of_block R1.out) (Nat.ne_of_lt (lt_of_block R1.out))).trans R1.out)
  clear k2
  refine hK _ _ ?_
  clear hK K
  refine wpList_store_row rfl 27 _ _ rfl (tb) #[.slice lad ln lc, .slice pad pn pc] rfl rfl 27 #[.slice lad ln lc, .slice pad pn pc] T2.out treeInfo rfl (tree_all _ _ _ _ _ _) ?_
  simp only [Act.put]
  have T3 : Hid ((w2.setRow tb #[.slice lad ln lc, .slice pad pn pc]).heap[tb]? = some (.cells #[.slice lad ln lc, .slice pad pn pc] 27 (0, 0))) := Lib.hid (setRow_heap w2 tb _ #[.slice lad ln lc, .slice pad pn pc] _ _ T2.out)
  have g3 := grown_setRow w2 tb #[.slice lad ln lc, .slice pad pn pc]
  have K3 := Lib.hid (K2.out.grown g3 K2.out.size (fun k e => by cases e; exact Nat.le_of_not_lt HTB.out))
  have R3 := Lib.hid ((g3.block rb (lt_of_block R2.out) (fun e => HTR.out (Option.some.inj e).symm)).trans R2.out)
  have HTAB := Lib.hid (htab.kept K3.out hw0 hw0)
  generalize w2.setRow tb #[.slice lad ln lc, .slice pad pn pc] = w3 at T3 K3 R3 HTAB ⊢
  clear g3 htab
  have t0 := two_cell0 T3.out
  by_cases hz : ln = 0
  · have hz0 : ((ln : Int) == 0) = true := by rw [beq_iff_eq]; omega
    have HCN := Lib.hid (show cu = (bcells (Sm.sum Tt.noneB)).toArray by rw [HCE.out, HCU.out, if_pos hz])
    rw [← HCN.out] at HSN
    clear hz
    go_upto_region 2 with fail
    refine wp_region_lit ?_
    refine @BigFrame.wpList_want _ _ _ _ _ _ _ ?hw54007 ?_
    case hw54007 => kernel_rfl
    intro K hK
    go_simp
    refine hK _ _ ?_
    clear hK K
    refine @BigFrame.wpList_want _ _ _ _ _ _ _ ?hw54008 ?_
    case hw54008 => kernel_rfl
    intro K hK
    go_simp
    refine hK _ _ ?_
    clear hK K
    refine @BigFrame.wpList_want _ _ _ _ _ _ _ ?hw54009 ?_
    case hw54009 => kernel_rfl
    intro K hK
    go_simp
    refine hK _ _ ?_
    clear hK K
    refine @BigFrame.wpList_want _ _ _ _ _ _ _ ?hw54010 ?_
    case hw54010 => kernel_rfl
    intro K hK
    go_simp
    refine hK _ _ ?_
    clear hK K
    clear t0 hz0
    go_upto_region 3 with fail
    refine wp_region_lit ?_
    refine @BigFrame.wpList_want _ _ _ _ _ _ _ ?hw54011 ?_
    case hw54011 => kernel_rfl
    intro K hK
    go_simp
    refine hK _ _ ?_
    clear hK K
    refine @BigFrame.wpList_want _ _ _ _ _ _ _ ?hw54012 ?_
    case hw54012 => kernel_rfl
    intro K hK
    go_simp
    go_at_call 54
    refine (HSN.out _ _ (heap_new w3 _)).mono ?_
    rintro e w6 ⟨rfl, k6⟩
    refine hK _ _ ?_
    clear hK K
    have ka := (Kept.refl w3.heap.size w3.heap.size w3).alloc (Nat.le_refl _) (.cells #[.string ⟨#[110, 111, 110, 101]⟩] 9)
    have R6 := Lib.hid (((ka.next1 k6).block rb (lt_of_block R3.out) (Nat.ne_of_lt (lt_of_block R3.out))).trans R3.out)
    have K6 := Lib.hid (K3.out.next1 (ka.next1 k6))
    clear ka k6
    refine wpList_store_row rfl 39 _ _ rfl (rb) cu rfl rfl 39 zeros32 R6.out (info30 HCS.out) (by rw [HCS.out]; rfl) HALL.out ?_
    simp only [Act.put]
    have RZ := setRow_heap w6 rb _ cu _ _ R6.out
    have KZ := Lib.hid (K6.out.grown (grown_setRow w6 rb cu) K6.out.size (fun k e => by cases e; exact Nat.le_of_not_lt HRB.out))
    generalize w6.setRow rb cu = wz at RZ KZ ⊢
    go_wp2
    refine bodyPost_ret (results_cell_row rfl _ _ rb 39 _ (0, 0) _ rfl RZ Tryz.underlying39 rfl (info30 HCS.out)) rfl ?_
    exact ⟨rfl, KZ.out⟩
  · have hz0 : ((ln : Int) == 0) = false := by rw [beq_eq_false_iff_ne]; omega
    have HCN := Lib.hid (show cu = (bcells (Tt.hashSeg L P ln 0 ln)).toArray by rw [HCE.out, HCU.out, if_neg hz])
    have HHN := Lib.hid (HH.out (by omega))
    rw [← HCN.out] at HHN
    have hrt : Bo.Root (ln : Int) = ((Bo.root 0 ln : Nat) : Int) := by
      have hthere : Bo.there (ln : Int) 0 = true := by simp [Bo.there]; omega
      rw [Bo.Root, if_pos hthere, Int.toNat_natCast]
    obtain ⟨y, hy⟩ : ∃ y : Int, y = ((Bo.root 0 ln : Nat) : Int) := ⟨_, rfl⟩
    rw [← hy] at HHN hrt
    have HRT := Lib.hid hrt
    clear hz hrt hy
    go_upto_region 2 with fail
    refine wp_region_lit ?_
    refine @BigFrame.wpList_want _ _ _ _ _ _ _ ?hw54013 ?_
    case hw54013 => kernel_rfl
    intro K hK
    go_simp
    refine hK _ _ ?_
    clear hK K
    refine @BigFrame.wpList_want _ _ _ _ _ _ _ ?hw54014 ?_
    case hw54014 => kernel_rfl
    intro K hK
    go_simp
    refine hK _ _ ?_
    clear hK K
    refine @BigFrame.wpList_want _ _ _ _ _ _ _ ?hw54015 ?_
    case hw54015 => kernel_rfl
    intro K hK
    go_simp
    refine hK _ _ ?_
    clear hK K
    refine @BigFrame.wpList_want _ _ _ _ _ _ _ ?hw54016 ?_
    case hw54016 => kernel_rfl
    intro K hK
    go_simp
    refine hK _ _ ?_
    clear hK K
    clear t0 hz0
    go_upto_region 4 with fail
    refine wp_region_noPanic ?_
    obtain ⟨wd, hwd⟩ : ∃ wd, wd = w3.drew := ⟨_, rfl⟩
    have hkd : Kept w3.heap.size w3.heap.size w3 wd := by rw [hwd]; exact (Kept.refl _ _ _).drew
    have HTX := Lib.hid (fun (u : World) (k : Kept w3.heap.size w3.heap.size w3 u) => (k.block tb (lt_of_block T3.out) (Nat.ne_of_lt (lt_of_block T3.out))).trans T3.out)
    have HLT := Lib.hid (fun (u : World) (k : Kept w3.heap.size w3.heap.size w3 u) => run_loadVar_row u tb 27 27 _ (0, 0) _ (HTX.out u k) Tryz.underlying27 rfl treeInfo)
    have HLL := Lib.hid (fun (u : World) (k : Kept w3.heap.size w3.heap.size w3 u) => load_slice (d := .int .u8) (two_cell0 (HTX.out u k)) (.inl rfl) rfl)
    refine wp_region_heldTo 6 (S := fun w' => Kept w3.heap.size w3.heap.size w3 w') (by kernel_rfl) (by rw [← hwd]; exact hkd) (fun hH => ?_)
    rw [← hwd] at hH ⊢
    clear hwd
    refine heldTo_take (i := 0) 11 (.agg #[.slice lad ln lc, .slice pad pn pc]) rfl rfl (by kernel_rfl) (by kernel_rfl) (by kernel_rfl) (by kernel_rfl) (fun _ _ _ h => h) (yieldsIf_load_known (by kernel_rfl) 27 _ rfl (tb) (0) rfl (.agg #[.slice lad ln lc, .slice pad pn pc]) (HLT.out)) hH ?_
    simp only [List.setIfInBounds_toArray, List.set_cons_zero, List.set_cons_succ]
    refine heldTo_take (i := 1) 12 (.pointer (some ⟨tb, 0, none⟩)) rfl rfl (by kernel_rfl) (by kernel_rfl) (by kernel_rfl) (by kernel_rfl) (fun _ _ _ h => h) (.inl ⟨by kernel_rfl, fun w9 _ => by go_simp; first | done | rfl⟩) hH ?_
    simp only [List.setIfInBounds_toArray, List.set_cons_zero, List.set_cons_succ]
    refine heldTo_take (i := 2) 13 (.slice lad ln lc) rfl rfl (by kernel_rfl) (by kernel_rfl) (by kernel_rfl) (by kernel_rfl) (fun _ _ _ h => h) (yieldsIf_load_known (by kernel_rfl) 24 _ rfl (tb) (0) rfl (.slice lad ln lc) (HLL.out)) hH ?_
    simp only [List.setIfInBounds_toArray, List.set_cons_zero, List.set_cons_succ]
    refine heldTo_take (i := 3) 14 (.int .i64 (ln : Int)) rfl rfl (by kernel_rfl) (by kernel_rfl) (by kernel_rfl) (by kernel_rfl) (fun _ _ _ h => h) (.inl ⟨by kernel_rfl, fun w9 _ => by go_simp; first | done | rfl⟩) hH ?_
    simp only [List.setIfInBounds_toArray, List.set_cons_zero, List.set_cons_succ]
    refine heldTo_one (i := 4) (by kernel_rfl) rfl (fun K hK => ?_)
    rw [if_pos (by rfl)]
    go_simp
    go_wp2_with (go_at_call 56; refine (rootof_calls lenIs (ln : Int) _).mono ?_; rintro e w5 ⟨rfl, k5⟩)
    rw [HRT.out]
    have KR : Kept w3.heap.size w3.heap.size w3 w5 := hkd.next1 k5
    refine hK.out _ _ KR (fun hH => ?_)
    clear hK K
    refine heldTo_one (i := 5) (by kernel_rfl) rfl (fun K hK => ?_)
    rw [if_pos (by rfl)]
    go_simp
    go_wp2_with (go_at_call 55; refine (HHN.out _ (HTAB.out.kept KR (Nat.lt_of_lt_of_le hw0 K3.out.size) (Nat.lt_of_lt_of_le hw0 K3.out.size)) (K3.out.next1 KR)).mono ?_; rintro e w7 ⟨rfl, k7⟩)
    have KH := KR.next1 k7
    refine hK.out _ _ KH (fun hH => ?_)
    clear hK K
    have R9 := (KH.block rb (lt_of_block R3.out) (Nat.ne_of_lt (lt_of_block R3.out))).trans R3.out
    refine heldTo_last (by kernel_rfl) rfl (fun K hK => ?_)
    rw [if_pos (by rfl)]
    refine wp_store_row_none 39 _ _ rfl rfl rb cu rfl rfl 39 zeros32 R9 (info30 HCS.out) (by rw [HCS.out]; rfl) HALL.out ?_
    refine hK.out _ _ ?_
    clear hK K
    refine heldTo_done (by kernel_rfl) ?_ _
    refine NoPanic.normal ?_
    have R10 := setRow_heap w7 rb _ cu _ _ R9
    have K10 := Lib.hid ((K3.out.next1 KH).grown (grown_setRow w7 rb cu) (K3.out.next1 KH).size (fun k e => by cases e; exact Nat.le_of_not_lt HRB.out))
    generalize w7.setRow rb cu = w10 at R10 K10 ⊢
    clear hH
    go_wp2
    refine bodyPost_ret (results_cell_row rfl _ _ rb 39 _ (0, 0) _ rfl R10 Tryz.underlying39 rfl (info30 HCS.out)) rfl ?_
    exact ⟨rfl, K10.out⟩

set_option maxRecDepth 100000 in
set_option maxHeartbeats 6400000 in
theorem refhash_calls8 (lv pv : Value) (L : List Lf) (P : List Pr) (w : World) (hL : Lvs w lv L) (hP : Pts w pv P) (hr : Tt.right L P = true) :
    Calls Tryz.prog 18 #[.agg #[lv, pv]] w fun e w' => e = .returned (.agg (bcells (Tt.treeHash L P)).toArray) ∧ Kept w.heap.size w.heap.size w w' := by
  have hF := Tt.fine_of hr
  have HH := Lib.hid (fun (h1 : 1 ≤ L.length) (x : World) (k : Kept w.heap.size w.heap.size w x) => refhashat_calls L P hF L.length rfl h1 L.length 0 L.length _ _ (Nat.le_refl _) .top lv pv x (hL.kept k) (hP.kept k))
  have hth : (Tt.treeHash L P).length = 32 := by
    unfold Tt.treeHash
    split
    · exact sum_len32 _
    · obtain ⟨k, hk⟩ : ∃ k, L.length = k + 1 := ⟨L.length - 1, by omega⟩
      rw [hk]
      exact hashSeg_len L P k _ _
  have HCU := Lib.hid (show (Tt.treeHash L P) = if L.length = 0 then Sm.sum Tt.noneB else Tt.hashSeg L P L.length 0 L.length from rfl)
  have HSN := Lib.hid (fun (u : World) => refsum_str ⟨#[110, 111, 110, 101]⟩ Tt.noneB rfl (by decide) u)
  obtain ⟨lad, lc, rfl⟩ := hL.shape
  obtain ⟨pad, pc, rfl⟩ := hP.shape
  obtain ⟨ln, hln⟩ : ∃ ln, ln = L.length := ⟨_, rfl⟩
  obtain ⟨pn, hpn⟩ : ∃ pn, pn = P.length := ⟨_, rfl⟩
  have hln9 : ln ≤ 64 := by rw [hln]; exact hF.n64
  obtain ⟨cu, hcu⟩ : ∃ cu, cu = (bcells (Tt.treeHash L P)).toArray := ⟨_, rfl⟩
  have HCS := Lib.hid (show cu.size = 32 by rw [hcu, List.size_toArray, bcells_length, hth])
  have HALL := Lib.hid (show cu.all (·.oneCell') = true by rw [hcu]; exact bcells_all _)
  have HCE := Lib.hid hcu
  rw [← hcu]
  rw [← hln] at HH HCU
  rw [← hpn] at HH
  rw [← hln, ← hpn]
  clear hL hP hr hF hth hln hpn hcu
  have k1 := (Kept.refl w.heap.size w.heap.size w).alloc (Nat.le_refl _) (.cells #[.slice lad ln lc, .slice pad pn pc] 27)
  have t1 := heap_new w (.cells #[.slice lad ln lc, .slice pad pn pc] 27)
  have s1 : (w.alloc (.cells #[.slice lad ln lc, .slice pad pn pc] 27)).heap.size = w.heap.size + 1 := by simp
  go_enter Tryz.func18, Tryz.ntmps18
  go_upto_region 1 with fail
  rw [zeros32_eq]
  generalize w.alloc (.cells #[.slice lad ln lc, .slice pad pn pc] 27) = wa at k1 t1 s1 ⊢
  have k2 := (Kept.refl wa.heap.size wa.heap.size wa).alloc (Nat.le_refl _) (.cells zeros32 38)
  have r2 := heap_new wa (.cells zeros32 38)
  have t2 := (k2.block _ (lt_of_block t1) (Nat.ne_of_lt (lt_of_block t1))).trans t1
  generalize wa.alloc (.cells zeros32 38) = w1 at k2 r2 t2 ⊢
  have K1 := Lib.hid (k1.next1 k2)
  rw [s1] at r2
  (try rw [s1])
  obtain ⟨tb, htb⟩ : ∃ tb, tb = w.heap.size := ⟨_, rfl⟩
  obtain ⟨rb, hrb⟩ : ∃ rb, rb = w.heap.size + 1 := ⟨_, rfl⟩
  rw [← hrb] at r2
  (try rw [← hrb])
  rw [← htb] at t2
  (try rw [← htb])
  have HTR := Lib.hid (show tb ≠ rb by omega)
  have HTB := Lib.hid (show ¬ tb < w.heap.size by omega)
  have HRB := Lib.hid (show ¬ rb < w.heap.size by omega)
  have T1 := Lib.hid t2
  have R1 := Lib.hid r2
  clear k1 t1 s1 k2 r2 t2 htb hrb
  have t0 := two_cell0 T1.out
  by_cases hz : ln = 0
  · have hz0 : ((ln : Int) == 0) = true := by rw [beq_iff_eq]; omega
    have HCN := Lib.hid (show cu = (bcells (Sm.sum Tt.noneB)).toArray by rw [HCE.out, HCU.out, if_pos hz])
    rw [← HCN.out] at HSN
    clear hz
    refine wp_region_lit ?_
    refine @BigFrame.wpList_want _ _ _ _ _ _ _ ?hw54017 ?_
    case hw54017 => kernel_rfl
    intro K hK
    go_simp
    refine hK _ _ ?_
    clear hK K
    refine @BigFrame.wpList_want _ _ _ _ _ _ _ ?hw54018 ?_
    case hw54018 => kernel_rfl
    intro K hK
    go_simp
    refine hK _ _ ?_
    clear hK K
    refine @BigFrame.wpList_want _ _ _ _ _ _ _ ?hw54019 ?_
    case hw54019 => kernel_rfl
    intro K hK
    go_simp
    refine hK _ _ ?_
    clear hK K
    refine @BigFrame.wpList_want _ _ _ _ _ _ _ ?hw54020 ?_
    case hw54020 => kernel_rfl
    intro K hK
    go_simp
    refine hK _ _ ?_
    clear hK K
    clear t0 hz0
    go_upto_region 2 with fail
    refine wp_region_lit ?_
    refine @BigFrame.wpList_want _ _ _ _ _ _ _ ?hw54021 ?_
    case hw54021 => kernel_rfl
    intro K hK
    go_simp
    go_at_call 57
    refine (HSN.out _).mono ?_
    rintro e w6 ⟨rfl, k6⟩
    refine hK _ _ ?_
    clear hK K
    have R6 := Lib.hid ((k6.block rb (lt_of_block R1.out) (Nat.ne_of_lt (lt_of_block R1.out))).trans R1.out)
    have K6 := Lib.hid (K1.out.next1 k6)
    clear k6
    refine wpList_store_row rfl 38 _ _ rfl (rb) cu rfl rfl 38 zeros32 R6.out (info32 HCS.out) (by rw [HCS.out]; rfl) HALL.out ?_
    simp only [Act.put]
    have RZ := setRow_heap w6 rb _ cu _ _ R6.out
    have KZ := Lib.hid (K6.out.grown (grown_setRow w6 rb cu) K6.out.size (fun k e => by cases e; exact Nat.le_of_not_lt HRB.out))
    generalize w6.setRow rb cu = wz at RZ KZ ⊢
    go_wp2
    refine bodyPost_ret (results_cell_row rfl _ _ rb 38 _ (0, 0) _ rfl RZ Tryz.underlying38 rfl (info32 HCS.out)) rfl ?_
    exact ⟨rfl, KZ.out⟩
  · have hz0 : ((ln : Int) == 0) = false := by rw [beq_eq_false_iff_ne]; omega
    have HCN := Lib.hid (show cu = (bcells (Tt.hashSeg L P ln 0 ln)).toArray by rw [HCE.out, HCU.out, if_neg hz])
    have HHN := Lib.hid (HH.out (by omega))
    rw [← HCN.out] at HHN
    have hrt : Bo.Root (ln : Int) = ((Bo.root 0 ln : Nat) : Int) := by
      have hthere : Bo.there (ln : Int) 0 = true := by simp [Bo.there]; omega
      rw [Bo.Root, if_pos hthere, Int.toNat_natCast]
    obtain ⟨y, hy⟩ : ∃ y : Int, y = ((Bo.root 0 ln : Nat) : Int) := ⟨_, rfl⟩
    rw [← hy] at HHN hrt
    have HRT := Lib.hid hrt
    clear hz hrt hy
    refine wp_region_lit ?_
    refine @BigFrame.wpList_want _ _ _ _ _ _ _ ?hw54022 ?_
    case hw54022 => kernel_rfl
    intro K hK
    go_simp
    refine hK _ _ ?_
    clear hK K
    refine @BigFrame.wpList_want _ _ _ _ _ _ _ ?hw54023 ?_
    case hw54023 => kernel_rfl
    intro K hK
    go_simp
    refine hK _ _ ?_
    clear hK K
    refine @BigFrame.wpList_want _ _ _ _ _ _ _ ?hw54024 ?_
    case hw54024 => kernel_rfl
    intro K hK
    go_simp
    refine hK _ _ ?_
    clear hK K
    refine @BigFrame.wpList_want _ _ _ _ _ _ _ ?hw54025 ?_
    case hw54025 => kernel_rfl
    intro K hK
    go_simp
    refine hK _ _ ?_
    clear hK K
    clear t0 hz0
    go_upto_region 3 with fail
    refine wp_region_noPanic ?_
    obtain ⟨wd, hwd⟩ : ∃ wd, wd = w1.drew := ⟨_, rfl⟩
    have hkd : Kept w1.heap.size w1.heap.size w1 wd := by rw [hwd]; exact (Kept.refl _ _ _).drew
    have HTX := Lib.hid (fun (u : World) (k : Kept w1.heap.size w1.heap.size w1 u) => (k.block tb (lt_of_block T1.out) (Nat.ne_of_lt (lt_of_block T1.out))).trans T1.out)
    have HLT := Lib.hid (fun (u : World) (k : Kept w1.heap.size w1.heap.size w1 u) => run_loadVar_row u tb 27 27 _ (0, 0) _ (HTX.out u k) Tryz.underlying27 rfl treeInfo)
    have HLL := Lib.hid (fun (u : World) (k : Kept w1.heap.size w1.heap.size w1 u) => load_slice (d := .int .u8) (two_cell0 (HTX.out u k)) (.inl rfl) rfl)
    refine wp_region_heldTo 6 (S := fun w' => Kept w1.heap.size w1.heap.size w1 w') (by kernel_rfl) (by rw [← hwd]; exact hkd) (fun hH => ?_)
    rw [← hwd] at hH ⊢
    clear hwd
    refine heldTo_take (i := 0) 8 (.agg #[.slice lad ln lc, .slice pad pn pc]) rfl rfl (by kernel_rfl) (by kernel_rfl) (by kernel_rfl) (by kernel_rfl) (fun _ _ _ h => h) (yieldsIf_load_known (by kernel_rfl) 27 _ rfl (tb) (0) rfl (.agg #[.slice lad ln lc, .slice pad pn pc]) (HLT.out)) hH ?_
    simp only [List.setIfInBounds_toArray, List.set_cons_zero, List.set_cons_succ]
    refine heldTo_take (i := 1) 9 (.pointer (some ⟨tb, 0, none⟩)) rfl rfl (by kernel_rfl) (by kernel_rfl) (by kernel_rfl) (by kernel_rfl) (fun _ _ _ h => h) (.inl ⟨by kernel_rfl, fun w9 _ => by go_simp; first | done | rfl⟩) hH ?_
    simp only [List.setIfInBounds_toArray, List.set_cons_zero, List.set_cons_succ]
    refine heldTo_take (i := 2) 10 (.slice lad ln lc) rfl rfl (by kernel_rfl) (by kernel_rfl) (by kernel_rfl) (by kernel_rfl) (fun _ _ _ h => h) (yieldsIf_load_known (by kernel_rfl) 24 _ rfl (tb) (0) rfl (.slice lad ln lc) (HLL.out)) hH ?_
    simp only [List.setIfInBounds_toArray, List.set_cons_zero, List.set_cons_succ]
    refine heldTo_take (i := 3) 11 (.int .i64 (ln : Int)) rfl rfl (by kernel_rfl) (by kernel_rfl) (by kernel_rfl) (by kernel_rfl) (fun _ _ _ h => h) (.inl ⟨by kernel_rfl, fun w9 _ => by go_simp; first | done | rfl⟩) hH ?_
    simp only [List.setIfInBounds_toArray, List.set_cons_zero, List.set_cons_succ]
    refine heldTo_one (i := 4) (by kernel_rfl) rfl (fun K hK => ?_)
    rw [if_pos (by rfl)]
    go_simp
    go_wp2_with (go_at_call 58; refine (rrootof_calls (ln : Int) _).mono ?_; rintro e w5 ⟨rfl, hw5⟩; subst w5)
    rw [HRT.out]
    have KR := hkd
    refine hK.out _ _ KR (fun hH => ?_)
    clear hK K
    refine heldTo_one (i := 5) (by kernel_rfl) rfl (fun K hK => ?_)
    rw [if_pos (by rfl)]
    go_simp
    go_wp2_with (go_at_call 26; refine (HHN.out _ (K1.out.next1 KR)).mono ?_; rintro e w7 ⟨rfl, k7⟩)
    have KH := KR.next1 k7
    refine hK.out _ _ KH (fun hH => ?_)
    clear hK K
    have R9 := (KH.block rb (lt_of_block R1.out) (Nat.ne_of_lt (lt_of_block R1.out))).trans R1.out
    refine heldTo_last (by kernel_rfl) rfl (fun K hK => ?_)
    rw [if_pos (by rfl)]
    refine wp_store_row_none 38 _ _ rfl rfl rb cu rfl rfl 38 zeros32 R9 (info32 HCS.out) (by rw [HCS.out]; rfl) HALL.out ?_
    refine hK.out _ _ ?_
    clear hK K
    refine heldTo_done (by kernel_rfl) ?_ _
    refine NoPanic.normal ?_
    have R10 := setRow_heap w7 rb _ cu _ _ R9
    have K10 := Lib.hid ((K1.out.next1 KH).grown (grown_setRow w7 rb cu) (K1.out.next1 KH).size (fun k e => by cases e; exact Nat.le_of_not_lt HRB.out))
    generalize w7.setRow rb cu = w10 at R10 K10 ⊢
    clear hH
    go_wp2
    refine bodyPost_ret (results_cell_row rfl _ _ rb 38 _ (0, 0) _ rfl R10 Tryz.underlying38 rfl (info32 HCS.out)) rfl ?_
    exact ⟨rfl, K10.out⟩

end Go.Proofs.YtmmgekchfgmcdaaGreatDoor
