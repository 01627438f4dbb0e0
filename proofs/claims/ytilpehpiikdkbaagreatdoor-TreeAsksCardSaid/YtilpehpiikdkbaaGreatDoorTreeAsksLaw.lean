/-
 The law TreeAsks.
-/
import Derived.Test.YtilpehpiikdkbaaGreatDoorHH
import Derived.Test.YtilpehpiikdkbaaGreatDoorHG
import Derived.Test.YtilpehpiikdkbaaGreatDoorTreePlacesLaw

namespace Go.Proofs.YtilpehpiikdkbaaGreatDoor
open Go.RowKit Go.Lib

theorem treeHash_len8 (L : List Lf) (P : List Pr) : (Tt.treeHash L P).length = 32 := by
 unfold Tt.treeHash
 split
 ·exact sum_len32 _
 ·obtain ⟨k, hk⟩ : ∃ k, L.length = k + 1 := ⟨L.length - 1, by omega⟩
  rw [hk]
  exact hashSeg_len L P k _ _
theorem Tt.resNode_length (L : List Lf) (P : List Pr) (hF : Tt.Fine L P) (x : Nat) (hx : Bo.In 0 L.length x) : (Tt.resNode L P x).length ≤ 80000 := by
 obtain ⟨a, m, p, b, h1, h2, h3, h4, h5⟩ := Bo.seg_of hx hF.n64
 have hs := h1.size hx.1
 have := Tt.resSeg_length L P hF.len L.length a m hs.1
 have h6 := hF.n64
 unfold Tt.resNode
 rw [h3]
 show (Tt.resSeg L P L.length a m).length ≤ 80000
 omega
section
variable {P : Program} {ops : Array Oper} {a : Act} {S : World → Prop}
theorem yieldsIf_eql8 {op : Oper} (hw : Region.wanted op (yielded ops a.tmps) = true) (t t2 : TypeId) (x y : Operand) (ho : op.op = .binOp .eql t x y t2) (A B : Array Value) (hx : a.eval x = .agg A) (hy : a.eval y = .agg B) (hg : P.eqGuardType P.depth t = false) (r : Bool) (hr : ∀ w, (Op.equalIn 10000 t (.agg A) (.agg B)).run P w = .ok r w) : YieldsIf P ops S op (.bool r) a :=
 .inl ⟨hw, fun w _ => by
  unfold execOp
  simp only [ho, hx, hy, Sem.run_bind, run_eqGuard_agg _ _ _ _ _ _ _ hg, run_eql_struct, hr, Result.andThen_ok, Sem.run_pure]⟩
end
set_option maxRecDepth 100000 in
set_option maxHeartbeats 12800000 in
theorem treeasks_walk (lv pv : Value) (L : List Lf) (P : List Pr) (y z : Int) (w : World) (hL : Lvs w lv L) (hP : Pts w pv P) (ht : Tab w) :
  Calls Tryz.prog 4 #[.agg #[lv, pv], .int .i64 y, .int .i64 z] w fun e w' => e = .returned (.bool true) ∧ Kept w.heap.size w.heap.size w w' := by
 have ka := (Kept.refl w.heap.size w.heap.size w).alloc (Nat.le_refl _) (.cells #[lv, pv] 27)
 have ta := heap_new w (.cells #[lv, pv] 27)
 have hw0 := ht.lt
 have hL1 := hL.kept ka
 have hP1 := hP.kept ka
 have ht1 := ht.kept ka hw0 hw0
 have hw1 : _ < (w.alloc (.cells #[lv, pv] 27)).heap.size := ht1.lt
 obtain ⟨lad, lc, rfl⟩ := hL.shape
 obtain ⟨pad, pc, rfl⟩ := hP.shape
 obtain ⟨fw, hfw⟩ : ∃ fw, fw = Tt.few L P := ⟨_, rfl⟩
 obtain ⟨rt, hrt⟩ : ∃ rt, rt = Tt.right L P := ⟨_, rfl⟩
 have hsz := fun h : fw = true => few_sizes8 (L := L) (P := P) (hfw ▸ h)
 have hr := fun h : rt = true => (show Tt.right L P = true from hrt ▸ h)
 have hr0 := fun h : rt = false => (show Tt.right L P = false from hrt ▸ h)
 have HSL := Lib.hid (show (sortI (Tt.names L)).length ≤ L.length by rw [sortI_length]; exact Tt.names_length L)
 obtain ⟨ln, hln⟩ : ∃ ln, ln = L.length := ⟨_, rfl⟩
 obtain ⟨pn, hpn⟩ : ∃ pn, pn = P.length := ⟨_, rfl⟩
 have hl64 := fun h : rt = true => (show ln ≤ 64 by rw [hln]; exact (Tt.fine_of (hr h)).n64)
 rw [← hln, ← hpn] at ka ta hL1 hP1 ht1 hw1 ⊢
 have HLN := Lib.hid hln
 clear hln hpn
 go_enter Tryz.func4, Tryz.ntmps4
 go_upto_region 1 with fail
 generalize w.alloc (.cells #[.slice lad ln lc, .slice pad pn pc] 27) = w1 at ka ta hL1 hP1 ht1 hw1 ⊢
 obtain ⟨tb, htb⟩ : ∃ tb, tb = w.heap.size := ⟨_, rfl⟩
 rw [← htb] at ta ⊢
 have K1 := Lib.hid ka
 have T1 := Lib.hid ta
 have HLT := Lib.hid (fun (x : World) (k : Kept w1.heap.size w1.heap.size w1 x) => run_loadVar_row x tb 27 27 _ (0, 0) _ ((k.block tb (lt_of_block T1.out) (Nat.ne_of_lt (lt_of_block T1.out))).trans T1.out) Tryz.underlying27 rfl treeInfo)
 have HFW := Lib.hid (fun (x : World) (k : Kept w1.heap.size w1.heap.size w1 x) => few_calls8 _ _ L P x (hL1.kept k) (hP1.kept k))
 rw [← hfw] at HFW
 have HAW := Lib.hid (fun x => awake_calls8 x)
 have HRF := Lib.hid (fun (hf : fw = true) (x : World) (k : Kept w1.heap.size w1.heap.size w1 x) => refright_calls8 _ _ L P x (hL1.kept k) (hP1.kept k) (hsz hf).2.2)
 have HRL := Lib.hid (fun (hf : fw = true) (x : World) (k : Kept w1.heap.size w1.heap.size w1 x) => right_calls8 _ _ L P x (hL1.kept k) (hP1.kept k) (hsz hf).1 (hsz hf).2.1 (hsz hf).2.2)
 rw [← hrt] at HRF HRL
 -- a tree that isn't right
 have BPL := Lib.hid (fun (hf : fw = true) (hb : rt = false) (x : World) (k : Kept w1.heap.size w1.heap.size w1 x) => (show Tt.place L P y = -1 by rw [Tt.place, hr0 hb, Bool.and_false, if_neg (by decide)]) ▸ place_calls8 _ _ L P y x (hL1.kept k) (hP1.kept k) (hsz hf).1 (hsz hf).2.1 (hsz hf).2.2)
 have BNM := Lib.hid (fun (hf : fw = true) (hb : rt = false) (x : World) (k : Kept w1.heap.size w1.heap.size w1 x) => names_bad8 _ _ L P x (hL1.kept k) (hP1.kept k) (hsz hf).1 (hsz hf).2.1 (hsz hf).2.2 (hr0 hb))
 have BRE := Lib.hid (fun (hf : fw = true) (hb : rt = false) (x : World) (k : Kept w1.heap.size w1.heap.size w1 x) => resolve_none8 lad pad ln lc pn pc none none 0 0 0 0 z x (fun u ku => rightornone_bad _ _ L P u ((hL1.kept k).kept ku) ((hP1.kept k).kept ku) (hsz hf).1 (hsz hf).2.1 (hsz hf).2.2 (hr0 hb)) (fun u => isnode8_no 0 z (by decide) (by omega) u))
 have BHA := Lib.hid (fun (hf : fw = true) (hb : rt = false) (x : World) (k : Kept w1.heap.size w1.heap.size w1 x) => hash_bad8 _ _ L P x (hL1.kept k) (hP1.kept k) (hsz hf).1 (hsz hf).2.1 (hsz hf).2.2 (hr0 hb))
 have BRH := Lib.hid (fun (x : World) => (show Calls Tryz.prog 18 #[.agg #[.slice none 0 0, .slice none 0 0]] x fun e w' => e = .returned (.agg (bcells (Sm.sum Tt.noneB)).toArray) ∧ Kept x.heap.size x.heap.size x w' from refhash_calls8 (.slice none 0 0) (.slice none 0 0) [] [] x ⟨none, 0, 0, 0, rfl, fun i hi => absurd hi (Nat.not_lt_zero _), Nat.le_refl _⟩ ⟨none, 0, 0, 0, rfl, fun i hi => absurd hi (Nat.not_lt_zero _), Nat.le_refl _⟩ rfl))
 have BAT := Lib.hid (fun (hf : fw = true) (hb : rt = false) (x : World) (k : Kept w1.heap.size w1.heap.size w1 x) => hashat_bad8 _ _ L P x (hL1.kept k) (hP1.kept k) (hsz hf).1 (hsz hf).2.1 (hsz hf).2.2 (hr0 hb) z)
 have BPK := Lib.hid (fun (hf : fw = true) (hb : rt = false) (x : World) (k : Kept w1.heap.size w1.heap.size w1 x) => pack_bad8 _ _ L P x (hL1.kept k) (hP1.kept k) (hsz hf).1 (hsz hf).2.1 (hsz hf).2.2 (hr0 hb))
 have BEQ := Lib.hid (fun x => mac_equalIn x (Sm.sum Tt.noneB) (sum_len32 _))
 have ZEQ := Lib.hid (fun x => (show (Op.equalIn 10000 39 (.agg zeros32) (.agg zeros32)).run Tryz.prog x = .ok true x from mac_equalIn x Tt.z32 rfl))
 -- a right one
 have GPL := Lib.hid (fun (hf : fw = true) (hg : rt = true) (x : World) (k : Kept w1.heap.size w1.heap.size w1 x) => (Tt.place_same (hr hg) y) ▸ place_calls8 _ _ L P y x (hL1.kept k) (hP1.kept k) (hsz hf).1 (hsz hf).2.1 (hsz hf).2.2)
 have GRP := Lib.hid (fun (hf : fw = true) (x : World) (k : Kept w1.heap.size w1.heap.size w1 x) => refplace_calls _ _ L y x (hL1.kept k) (hsz hf).1 ⟨pad, pn, pc, rfl⟩)
 have GNM := Lib.hid (fun (hf : fw = true) (hg : rt = true) (x : World) (k : Kept w1.heap.size w1.heap.size w1 x) => names_calls _ _ L P x (hL1.kept k) (hP1.kept k) (hsz hf).1 (hsz hf).2.1 (hsz hf).2.2 (hr hg))
 have GRN := Lib.hid (fun (hf : fw = true) (x : World) (k : Kept w1.heap.size w1.heap.size w1 x) => refnames_calls _ _ L x (hL1.kept k) (hsz hf).1 ⟨pad, pn, pc, rfl⟩)
 have GNS := Lib.hid (fun (hg : rt = true) => Tt.names_same (hr hg))
 have GN66 := Lib.hid (fun (hg : rt = true) => show (sortI (Tt.names L)).length ≤ 80000 by
  rw [Tt.names_same (hr hg)]
  exact Nat.le_trans (Tt.rnamesTo_length L 64) (by decide))
 have GHA := Lib.hid (fun (hg : rt = true) (x : World) (k : Kept w1.heap.size w1.heap.size w1 x) => hash_calls8 _ _ L P x (ht1.kept k hw1 hw1) (hL1.kept k) (hP1.kept k) (hr hg))
 have GRH := Lib.hid (fun (hg : rt = true) (x : World) (k : Kept w1.heap.size w1.heap.size w1 x) => refhash_calls8 _ _ L P x (hL1.kept k) (hP1.kept k) (hr hg))
 have GEQ := Lib.hid (fun x => mac_equalIn x (Tt.treeHash L P) (treeHash_len8 L P))
 have GPK := Lib.hid (fun (hg : rt = true) (x : World) (k : Kept w1.heap.size w1.heap.size w1 x) => pack_calls8 _ _ L P x (ht1.kept k hw1 hw1) (hL1.kept k) (hP1.kept k) (hr hg))
 have GRK := Lib.hid (fun (hg : rt = true) (x : World) (k : Kept w1.heap.size w1.heap.size w1 x) => refpack_calls8 _ _ L P (Tt.fine_of (hr hg)) (by
  obtain ⟨h1, h2, h3⟩ := Tt.right_parts (hr hg)
  exact Tt.parents_loose h1 P 0 h3) x (hL1.kept k) (hP1.kept k))
 have GRE := Lib.hid (fun (hg : rt = true) (hz : ¬ (0 ≤ z ∧ z ≤ 2 * (ln : Int) - 2)) (x : World) (k : Kept w1.heap.size w1.heap.size w1 x) => resolve_none8 lad pad ln lc pn pc lad pad ln lc pn pc z x (fun u ku => rightornone8 _ _ L P u ((hL1.kept k).kept ku) ((hP1.kept k).kept ku) (Nat.le_trans (Tt.fine_of (hr hg)).n64 (by decide)) (by have := (Tt.fine_of (hr hg)).n64; have := (Tt.fine_of (hr hg)).par; omega) (Tt.fine_of (hr hg)).len (hr hg)) (fun u => isnode8_no ln z (hl64 hg) hz u))
 have GAT := Lib.hid (fun (hg : rt = true) (x : World) (k : Kept w1.heap.size w1.heap.size w1 x) => hashat_calls8 _ _ L P z x (ht1.kept k hw1 hw1) (hL1.kept k) (hP1.kept k) (hr hg))
 have GNZ := Lib.hid (show ¬ (0 ≤ z ∧ z ≤ 2 * (ln : Int) - 2) → (bcells (Tt.nodeHash L P z)).toArray = zeros32 from fun h => by rw [Tt.nodeHash, if_neg (by rw [← HLN.out]; exact h)]; rfl)
 have GIN := Lib.hid (show (0 ≤ z ∧ z ≤ 2 * (ln : Int) - 2) → Bo.In 0 L.length z.toNat from fun h => by rw [← HLN.out]; unfold Bo.In; omega)
 have GRS := Lib.hid (fun (hg : rt = true) (hz : Bo.In 0 L.length z.toNat) (x : World) (k : Kept w1.heap.size w1.heap.size w1 x) => resolve_calls8 _ _ L P z.toNat x (hL1.kept k) (hP1.kept k) (hr hg) hz)
 have GRR := Lib.hid (fun (hg : rt = true) (hz : Bo.In 0 L.length z.toNat) (x : World) (k : Kept w1.heap.size w1.heap.size w1 x) => refresolve_node _ _ L P (Tt.fine_of (hr hg)) z.toNat hz x (hL1.kept k) (hP1.kept k))
 have GRA := Lib.hid (fun (hg : rt = true) (hz : Bo.In 0 L.length z.toNat) (x : World) (k : Kept w1.heap.size w1.heap.size w1 x) => refhashat_node _ _ L P (Tt.fine_of (hr hg)) z.toNat hz x (hL1.kept k) (hP1.kept k))
 have GHN := Lib.hid (show (0 ≤ z ∧ z ≤ 2 * (ln : Int) - 2) → Tt.nodeHash L P z = Tt.hashNode L P z.toNat from fun h => by rw [Tt.nodeHash, if_pos (by rw [← HLN.out]; exact h)])
 have GRL := Lib.hid (fun (hg : rt = true) (hz : Bo.In 0 L.length z.toNat) => Tt.resNode_length L P (Tt.fine_of (hr hg)) z.toNat hz)
 have GNE := Lib.hid (fun x => mac_equalIn x (Tt.nodeHash L P z) (Tt.nodeHash_len L P z))
 have HL64 := Lib.hid hl64
 obtain ⟨q, hq⟩ : ∃ q, q = Tt.rplace L y := ⟨_, rfl⟩
 obtain ⟨hc, hhc⟩ : ∃ D, D = (bcells (Tt.treeHash L P)).toArray := ⟨_, rfl⟩
 obtain ⟨nc, hnc⟩ : ∃ D, D = (bcells (Tt.nodeHash L P z)).toArray := ⟨_, rfl⟩
 obtain ⟨bc, hbc⟩ : ∃ D, D = (bcells (Sm.sum Tt.noneB)).toArray := ⟨_, rfl⟩
 obtain ⟨pt, hpt⟩ : ∃ t, t = str (Tt.packText L P) := ⟨_, rfl⟩
 rw [← hq] at GPL GRP
 rw [← hhc] at GHA GRH GEQ
 rw [← hnc] at GAT GNZ GNE
 rw [← hbc] at BHA BRH BEQ
 rw [← hpt] at GPK GRK
 have HNC := Lib.hid hnc
 clear hL hP hL1 hP1 ka ta htb hsz hfw hrt hr hr0 hl64 ht ht1 hw0 hw1 hq hhc hnc hbc hpt
 cases fw with
 | false =>
  refine wp_region_lit ?_
  refine @BigFrame.wpList_want _ _ _ _ _ _ _ ?hw83001 ?_
  case hw83001 => kernel_rfl
  intro K hK
  go_simp
  go_at_call 9
  refine (HAW.out _).mono ?_
  rintro e w2 ⟨rfl, k2⟩
  have K2 := Lib.hid k2
  clear k2
  refine hK _ _ ?_
  clear hK K
  refine @BigFrame.wpList_want _ _ _ _ _ _ _ ?hw83003 ?_
  case hw83003 => kernel_rfl
  intro K hK
  go_simp
  refine hK _ _ ?_
  clear hK K
  refine @BigFrame.wpList_want _ _ _ _ _ _ _ ?hw83004 ?_
  case hw83004 => kernel_rfl
  intro K hK
  go_simp
  refine hK _ _ ?_
  clear hK K
  refine @wpList_load_known _ _ _ _ _ _ _ ?hw83005 27 (.tmp 3) rfl (tb) (0) rfl (.agg #[.slice lad ln lc, .slice pad pn pc]) (HLT.out w2 K2.out) ?_
  case hw83005 => kernel_rfl
  simp only [Act.put, List.setIfInBounds_toArray, List.set_cons_zero, List.set_cons_succ]
  refine @BigFrame.wpList_want _ _ _ _ _ _ _ ?hw83002 ?_
  case hw83002 => kernel_rfl
  intro K hK
  go_simp
  go_at_call 12
  refine (HFW.out w2 K2.out).mono ?_
  rintro e w3 ⟨rfl, k3⟩
  have K3 := Lib.hid (K2.out.next1 k3)
  clear k3
  refine hK _ _ ?_
  clear hK K
  refine @BigFrame.wpList_want _ _ _ _ _ _ _ ?hw83006 ?_
  case hw83006 => kernel_rfl
  intro K hK
  go_simp
  refine hK _ _ ?_
  clear hK K
  refine @BigFrame.wpList_want _ _ _ _ _ _ _ ?hw83007 ?_
  case hw83007 => kernel_rfl
  intro K hK
  go_simp
  refine hK _ _ ?_
  clear hK K
  go_upto_region 2 with fail
  refine wp_region_lit ?_
  refine @BigFrame.wpList_want _ _ _ _ _ _ _ ?hw83008 ?_
  case hw83008 => kernel_rfl
  intro K hK
  go_simp
  go_at_call 9
  refine (HAW.out _).mono ?_
  rintro e w4 ⟨rfl, k4⟩
  have K4 := Lib.hid (K3.out.next1 k4)
  clear k4
  refine hK _ _ ?_
  clear hK K
  refine @BigFrame.wpList_want _ _ _ _ _ _ _ ?hw83009 ?_
  case hw83009 => kernel_rfl
  intro K hK
  go_simp
  refine hK _ _ ?_
  clear hK K
  go_wp2
  go_ret
  exact ⟨rfl, K1.out.next1 K4.out⟩
 | true =>
  have HR2 := Lib.hid (HRF.out rfl)
  have HR3 := Lib.hid (HRL.out rfl)
  clear HRF HRL
  cases rt with
  | false =>
   have BPL2 := Lib.hid (BPL.out rfl rfl)
   have BNM2 := Lib.hid (BNM.out rfl rfl)
   have BRE2 := Lib.hid (BRE.out rfl rfl)
   have BHA2 := Lib.hid (BHA.out rfl rfl)
   have BAT2 := Lib.hid (BAT.out rfl rfl)
   have BPK2 := Lib.hid (BPK.out rfl rfl)
   clear BPL BNM BRE BHA BAT BPK GPL GRP GNM GRN GNS GN66 GHA GRH GEQ GPK GRK GRE GAT GNZ GIN GRS GRR GRA GHN GRL GNE HL64 HNC
   refine wp_region_lit ?_
   refine @BigFrame.wpList_want _ _ _ _ _ _ _ ?hw83010 ?_
   case hw83010 => kernel_rfl
   intro K hK
   go_simp
   go_at_call 9
   refine (HAW.out _).mono ?_
   rintro e w2 ⟨rfl, k2⟩
   have K2 := Lib.hid k2
   clear k2
   refine hK _ _ ?_
   clear hK K
   refine @BigFrame.wpList_want _ _ _ _ _ _ _ ?hw83012 ?_
   case hw83012 => kernel_rfl
   intro K hK
   go_simp
   refine hK _ _ ?_
   clear hK K
   refine @BigFrame.wpList_want _ _ _ _ _ _ _ ?hw83013 ?_
   case hw83013 => kernel_rfl
   intro K hK
   go_simp
   refine hK _ _ ?_
   clear hK K
   refine @wpList_load_known _ _ _ _ _ _ _ ?hw83014 27 (.tmp 3) rfl (tb) (0) rfl (.agg #[.slice lad ln lc, .slice pad pn pc]) (HLT.out w2 K2.out) ?_
   case hw83014 => kernel_rfl
   simp only [Act.put, List.setIfInBounds_toArray, List.set_cons_zero, List.set_cons_succ]
   refine @BigFrame.wpList_want _ _ _ _ _ _ _ ?hw83011 ?_
   case hw83011 => kernel_rfl
   intro K hK
   go_simp
   go_at_call 12
   refine (HFW.out w2 K2.out).mono ?_
   rintro e w3 ⟨rfl, k3⟩
   have K3 := Lib.hid (K2.out.next1 k3)
   clear k3
   refine hK _ _ ?_
   clear hK K
   refine @BigFrame.wpList_want _ _ _ _ _ _ _ ?hw83015 ?_
   case hw83015 => kernel_rfl
   intro K hK
   go_simp
   refine hK _ _ ?_
   clear hK K
   refine @BigFrame.wpList_want _ _ _ _ _ _ _ ?hw83016 ?_
   case hw83016 => kernel_rfl
   intro K hK
   go_simp
   refine hK _ _ ?_
   clear hK K
   go_upto_region 3 with fail
   refine wp_region_lit ?_
   refine @wpList_load_known _ _ _ _ _ _ _ ?hw83018 27 (.tmp 3) rfl (tb) (0) rfl (.agg #[.slice lad ln lc, .slice pad pn pc]) (HLT.out w3 K3.out) ?_
   case hw83018 => kernel_rfl
   simp only [Act.put, List.setIfInBounds_toArray, List.set_cons_zero, List.set_cons_succ]
   refine @BigFrame.wpList_want _ _ _ _ _ _ _ ?hw83017 ?_
   case hw83017 => kernel_rfl
   intro K hK
   go_simp
   go_at_call 13
   refine (HR2.out w3 K3.out).mono ?_
   rintro e w4 ⟨rfl, k4⟩
   have K4 := Lib.hid (K3.out.next1 k4)
   clear k4
   refine hK _ _ ?_
   clear hK K
   refine @BigFrame.wpList_want _ _ _ _ _ _ _ ?hw83019 ?_
   case hw83019 => kernel_rfl
   intro K hK
   go_simp
   refine hK _ _ ?_
   clear hK K
   go_upto_region 4 with fail
   refine wp_region_lit ?_
   refine @wpList_load_known _ _ _ _ _ _ _ ?hw83021 27 (.tmp 3) rfl (tb) (0) rfl (.agg #[.slice lad ln lc, .slice pad pn pc]) (HLT.out w4 K4.out) ?_
   case hw83021 => kernel_rfl
   simp only [Act.put, List.setIfInBounds_toArray, List.set_cons_zero, List.set_cons_succ]
   refine @BigFrame.wpList_want _ _ _ _ _ _ _ ?hw83020 ?_
   case hw83020 => kernel_rfl
   intro K hK
   go_simp
   go_at_call 11
   refine (HR3.out w4 K4.out).mono ?_
   rintro e w5 ⟨rfl, k5⟩
   have K5 := Lib.hid (K4.out.next1 k5)
   clear k5
   refine hK _ _ ?_
   clear hK K
   refine @BigFrame.wpList_want _ _ _ _ _ _ _ ?hw83022 ?_
   case hw83022 => kernel_rfl
   intro K hK
   go_simp
   refine hK _ _ ?_
   clear hK K
   refine @BigFrame.wpList_want _ _ _ _ _ _ _ ?hw83023 ?_
   case hw83023 => kernel_rfl
   intro K hK
   go_simp
   refine hK _ _ ?_
   clear hK K
   go_upto_region 7 with fail
   refine wp_region_lit ?_
   refine @wpList_load_known _ _ _ _ _ _ _ ?hw83031 27 (.tmp 3) rfl (tb) (0) rfl (.agg #[.slice lad ln lc, .slice pad pn pc]) (HLT.out w5 K5.out) ?_
   case hw83031 => kernel_rfl
   simp only [Act.put, List.setIfInBounds_toArray, List.set_cons_zero, List.set_cons_succ]
   refine @BigFrame.wpList_want _ _ _ _ _ _ _ ?hw83032 ?_
   case hw83032 => kernel_rfl
   intro K hK
   go_simp
   refine hK _ _ ?_
   clear hK K
   refine @BigFrame.wpList_want _ _ _ _ _ _ _ ?hw83024 ?_
   case hw83024 => kernel_rfl
   intro K hK
   go_simp
   go_at_call 14
   refine (BPL2.out w5 K5.out).mono ?_
   rintro e w6 ⟨rfl, k6⟩
   have K6 := Lib.hid (K5.out.next1 k6)
   clear k6
   refine hK _ _ ?_
   clear hK K
   refine @BigFrame.wpList_want _ _ _ _ _ _ _ ?hw83033 ?_
   case hw83033 => kernel_rfl
   intro K hK
   go_simp
   refine hK _ _ ?_
   clear hK K
   refine @BigFrame.wpList_want _ _ _ _ _ _ _ ?hw83034 ?_
   case hw83034 => kernel_rfl
   intro K hK
   go_simp
   refine hK _ _ ?_
   clear hK K
   refine @wpList_load_known _ _ _ _ _ _ _ ?hw83035 27 (.tmp 3) rfl (tb) (0) rfl (.agg #[.slice lad ln lc, .slice pad pn pc]) (HLT.out w6 K6.out) ?_
   case hw83035 => kernel_rfl
   simp only [Act.put, List.setIfInBounds_toArray, List.set_cons_zero, List.set_cons_succ]
   refine @BigFrame.wpList_want _ _ _ _ _ _ _ ?hw83025 ?_
   case hw83025 => kernel_rfl
   intro K hK
   go_simp
   go_at_call 15
   refine (BNM2.out w6 K6.out).mono ?_
   rintro e w7 ⟨v7, rfl, i7, k7⟩
   have K7 := Lib.hid (K6.out.next1 k7)
   clear k7
   obtain ⟨va, vc, hv⟩ := (ints_nums i7).shape
   subst hv
   rw [show (sortI (Tt.names ([] : List Lf))).length = 0 by rw [sortI_length]; rfl]
   clear i7
   refine hK _ _ ?_
   clear hK K
   refine @BigFrame.wpList_want _ _ _ _ _ _ _ ?hw83036 ?_
   case hw83036 => kernel_rfl
   intro K hK
   go_simp
   refine hK _ _ ?_
   clear hK K
   refine @BigFrame.wpList_want _ _ _ _ _ _ _ ?hw83037 ?_
   case hw83037 => kernel_rfl
   intro K hK
   go_simp
   refine hK _ _ ?_
   clear hK K
   refine @BigFrame.wpList_want _ _ _ _ _ _ _ ?hw83038 ?_
   case hw83038 => kernel_rfl
   intro K hK
   go_simp
   refine hK _ _ ?_
   clear hK K
   refine @BigFrame.wpList_want _ _ _ _ _ _ _ ?hw83039 ?_
   case hw83039 => kernel_rfl
   intro K hK
   go_simp
   refine hK _ _ ?_
   clear hK K
   refine @wpList_load_known _ _ _ _ _ _ _ ?hw83040 27 (.tmp 3) rfl (tb) (0) rfl (.agg #[.slice lad ln lc, .slice pad pn pc]) (HLT.out w7 K7.out) ?_
   case hw83040 => kernel_rfl
   simp only [Act.put, List.setIfInBounds_toArray, List.set_cons_zero, List.set_cons_succ]
   refine @BigFrame.wpList_want _ _ _ _ _ _ _ ?hw83041 ?_
   case hw83041 => kernel_rfl
   intro K hK
   go_simp
   refine hK _ _ ?_
   clear hK K
   refine @BigFrame.wpList_want _ _ _ _ _ _ _ ?hw83026 ?_
   case hw83026 => kernel_rfl
   intro K hK
   go_simp
   go_at_call 16
   refine (BRE2.out w7 K7.out).mono ?_
   rintro e w8 ⟨rfl, k8⟩
   have K8 := Lib.hid (K7.out.next1 k8)
   clear k8
   refine hK _ _ ?_
   clear hK K
   refine @BigFrame.wpList_want _ _ _ _ _ _ _ ?hw83042 ?_
   case hw83042 => kernel_rfl
   intro K hK
   go_simp
   refine hK _ _ ?_
   clear hK K
   refine @BigFrame.wpList_want _ _ _ _ _ _ _ ?hw83043 ?_
   case hw83043 => kernel_rfl
   intro K hK
   go_simp
   refine hK _ _ ?_
   clear hK K
   refine @BigFrame.wpList_want _ _ _ _ _ _ _ ?hw83044 ?_
   case hw83044 => kernel_rfl
   intro K hK
   go_simp
   refine hK _ _ ?_
   clear hK K
   refine @BigFrame.wpList_want _ _ _ _ _ _ _ ?hw83045 ?_
   case hw83045 => kernel_rfl
   intro K hK
   go_simp
   refine hK _ _ ?_
   clear hK K
   refine @wpList_load_known _ _ _ _ _ _ _ ?hw83046 27 (.tmp 3) rfl (tb) (0) rfl (.agg #[.slice lad ln lc, .slice pad pn pc]) (HLT.out w8 K8.out) ?_
   case hw83046 => kernel_rfl
   simp only [Act.put, List.setIfInBounds_toArray, List.set_cons_zero, List.set_cons_succ]
   refine @BigFrame.wpList_want _ _ _ _ _ _ _ ?hw83027 ?_
   case hw83027 => kernel_rfl
   intro K hK
   go_simp
   go_at_call 17
   refine (BHA2.out w8 K8.out).mono ?_
   rintro e w9 ⟨rfl, k9⟩
   have K9 := Lib.hid (K8.out.next1 k9)
   clear k9
   refine hK _ _ ?_
   clear hK K
   refine @wpL_build0 _ _ _ _ _ _ _ ?hw83047 27 rfl _ (build0_tree8 _) ?_
   case hw83047 => kernel_rfl
   simp only [Act.put, List.setIfInBounds_toArray, List.set_cons_zero, List.set_cons_succ]
   refine @BigFrame.wpList_want _ _ _ _ _ _ _ ?hw83028 ?_
   case hw83028 => kernel_rfl
   intro K hK
   go_simp
   go_at_call 18
   refine (BRH.out _).mono ?_
   rintro e wa ⟨rfl, ka⟩
   have Ka := Lib.hid (K9.out.next1 ka)
   clear ka
   refine hK _ _ ?_
   clear hK K
   refine @wpL_eql _ _ _ _ _ _ _ ?hw83048 _ _ _ _ rfl (bc) (bc) rfl rfl macGuard25 (true) (BEQ.out _) ?_
   case hw83048 => kernel_rfl
   simp only [Act.put, List.setIfInBounds_toArray, List.set_cons_zero, List.set_cons_succ]
   refine @BigFrame.wpList_want _ _ _ _ _ _ _ ?hw83049 ?_
   case hw83049 => kernel_rfl
   intro K hK
   go_simp
   refine hK _ _ ?_
   clear hK K
   refine @BigFrame.wpList_want _ _ _ _ _ _ _ ?hw83050 ?_
   case hw83050 => kernel_rfl
   intro K hK
   go_simp
   refine hK _ _ ?_
   clear hK K
   refine @wpList_load_known _ _ _ _ _ _ _ ?hw83051 27 (.tmp 3) rfl (tb) (0) rfl (.agg #[.slice lad ln lc, .slice pad pn pc]) (HLT.out wa Ka.out) ?_
   case hw83051 => kernel_rfl
   simp only [Act.put, List.setIfInBounds_toArray, List.set_cons_zero, List.set_cons_succ]
   refine @BigFrame.wpList_want _ _ _ _ _ _ _ ?hw83052 ?_
   case hw83052 => kernel_rfl
   intro K hK
   go_simp
   refine hK _ _ ?_
   clear hK K
   refine @BigFrame.wpList_want _ _ _ _ _ _ _ ?hw83029 ?_
   case hw83029 => kernel_rfl
   intro K hK
   go_simp
   go_at_call 19
   refine (BAT2.out wa Ka.out).mono ?_
   rintro e wb ⟨rfl, kb⟩
   have Kb := Lib.hid (Ka.out.next1 kb)
   clear kb
   refine hK _ _ ?_
   clear hK K
   refine @wpL_build0 _ _ _ _ _ _ _ ?hw83053 39 rfl _ (build_zh _) ?_
   case hw83053 => kernel_rfl
   simp only [Act.put, List.setIfInBounds_toArray, List.set_cons_zero, List.set_cons_succ]
   refine @wpL_eql _ _ _ _ _ _ _ ?hw83054 _ _ _ _ rfl (zeros32) (zeros32) rfl rfl macGuard25 (true) (ZEQ.out _) ?_
   case hw83054 => kernel_rfl
   simp only [Act.put, List.setIfInBounds_toArray, List.set_cons_zero, List.set_cons_succ]
   refine @BigFrame.wpList_want _ _ _ _ _ _ _ ?hw83055 ?_
   case hw83055 => kernel_rfl
   intro K hK
   go_simp
   refine hK _ _ ?_
   clear hK K
   refine @BigFrame.wpList_want _ _ _ _ _ _ _ ?hw83056 ?_
   case hw83056 => kernel_rfl
   intro K hK
   go_simp
   refine hK _ _ ?_
   clear hK K
   refine @wpList_load_known _ _ _ _ _ _ _ ?hw83057 27 (.tmp 3) rfl (tb) (0) rfl (.agg #[.slice lad ln lc, .slice pad pn pc]) (HLT.out wb Kb.out) ?_
   case hw83057 => kernel_rfl
   simp only [Act.put, List.setIfInBounds_toArray, List.set_cons_zero, List.set_cons_succ]
   refine @BigFrame.wpList_want _ _ _ _ _ _ _ ?hw83030 ?_
   case hw83030 => kernel_rfl
   intro K hK
   go_simp
   go_at_call 20
   refine (BPK2.out wb Kb.out).mono ?_
   rintro e wc ⟨rfl, kc⟩
   have Kc := Lib.hid (Kb.out.next1 kc)
   clear kc
   refine hK _ _ ?_
   clear hK K
   refine @BigFrame.wpList_want _ _ _ _ _ _ _ ?hw83058 ?_
   case hw83058 => kernel_rfl
   intro K hK
   go_simp
   refine hK _ _ ?_
   clear hK K
   refine @BigFrame.wpList_want _ _ _ _ _ _ _ ?hw83059 ?_
   case hw83059 => kernel_rfl
   intro K hK
   go_simp
   refine hK _ _ ?_
   clear hK K
   refine @BigFrame.wpList_want _ _ _ _ _ _ _ ?hw83060 ?_
   case hw83060 => kernel_rfl
   intro K hK
   go_simp
   refine hK _ _ ?_
   clear hK K
   go_wp2
   go_ret
   exact ⟨rfl, K1.out.next1 Kc.out⟩
  | true =>
   have GPL2 := Lib.hid (GPL.out rfl rfl)
   have GRP2 := Lib.hid (GRP.out rfl)
   have GNM2 := Lib.hid (GNM.out rfl rfl)
   have GRN2 := Lib.hid (GRN.out rfl)
   have GHA2 := Lib.hid (GHA.out rfl)
   have GRH2 := Lib.hid (GRH.out rfl)
   have GPK2 := Lib.hid (GPK.out rfl)
   have GRK2 := Lib.hid (GRK.out rfl)
   have GAT2 := Lib.hid (GAT.out rfl)
   have hl64 := HL64.out rfl
   have hl64i : (ln : Int) ≤ 64 := by omega
   have HW0 := Lib.hid (show IntKind.i64.wrap (2 * (ln : Int)) = 2 * (ln : Int) from wrap_small _ (by omega) (by omega))
   have HW1 := Lib.hid (show IntKind.i64.wrap (2 * (ln : Int) - 2) = 2 * (ln : Int) - 2 by rw [IntKind.wrap_i64]; omega)
   clear BPL BNM BRE BHA BAT BPK BRH BEQ GPL GRP GNM GRN GHA GRH GPK GRK GAT HL64 hl64
   refine wp_region_lit ?_
   refine @BigFrame.wpList_want _ _ _ _ _ _ _ ?hw83061 ?_
   case hw83061 => kernel_rfl
   intro K hK
   go_simp
   go_at_call 9
   refine (HAW.out _).mono ?_
   rintro e w2 ⟨rfl, k2⟩
   have K2 := Lib.hid k2
   clear k2
   refine hK _ _ ?_
   clear hK K
   refine @BigFrame.wpList_want _ _ _ _ _ _ _ ?hw83063 ?_
   case hw83063 => kernel_rfl
   intro K hK
   go_simp
   refine hK _ _ ?_
   clear hK K
   refine @BigFrame.wpList_want _ _ _ _ _ _ _ ?hw83064 ?_
   case hw83064 => kernel_rfl
   intro K hK
   go_simp
   refine hK _ _ ?_
   clear hK K
   refine @wpList_load_known _ _ _ _ _ _ _ ?hw83065 27 (.tmp 3) rfl (tb) (0) rfl (.agg #[.slice lad ln lc, .slice pad pn pc]) (HLT.out w2 K2.out) ?_
   case hw83065 => kernel_rfl
   simp only [Act.put, List.setIfInBounds_toArray, List.set_cons_zero, List.set_cons_succ]
   refine @BigFrame.wpList_want _ _ _ _ _ _ _ ?hw83062 ?_
   case hw83062 => kernel_rfl
   intro K hK
   go_simp
   go_at_call 12
   refine (HFW.out w2 K2.out).mono ?_
   rintro e w3 ⟨rfl, k3⟩
   have K3 := Lib.hid (K2.out.next1 k3)
   clear k3
   refine hK _ _ ?_
   clear hK K
   refine @BigFrame.wpList_want _ _ _ _ _ _ _ ?hw83066 ?_
   case hw83066 => kernel_rfl
   intro K hK
   go_simp
   refine hK _ _ ?_
   clear hK K
   refine @BigFrame.wpList_want _ _ _ _ _ _ _ ?hw83067 ?_
   case hw83067 => kernel_rfl
   intro K hK
   go_simp
   refine hK _ _ ?_
   clear hK K
   go_upto_region 3 with fail
   refine wp_region_lit ?_
   refine @wpList_load_known _ _ _ _ _ _ _ ?hw83069 27 (.tmp 3) rfl (tb) (0) rfl (.agg #[.slice lad ln lc, .slice pad pn pc]) (HLT.out w3 K3.out) ?_
   case hw83069 => kernel_rfl
   simp only [Act.put, List.setIfInBounds_toArray, List.set_cons_zero, List.set_cons_succ]
   refine @BigFrame.wpList_want _ _ _ _ _ _ _ ?hw83068 ?_
   case hw83068 => kernel_rfl
   intro K hK
   go_simp
   go_at_call 13
   refine (HR2.out w3 K3.out).mono ?_
   rintro e w4 ⟨rfl, k4⟩
   have K4 := Lib.hid (K3.out.next1 k4)
   clear k4
   refine hK _ _ ?_
   clear hK K
   refine @BigFrame.wpList_want _ _ _ _ _ _ _ ?hw83070 ?_
   case hw83070 => kernel_rfl
   intro K hK
   go_simp
   refine hK _ _ ?_
   clear hK K
   go_upto_region 4 with fail
   refine wp_region_lit ?_
   refine @wpList_load_known _ _ _ _ _ _ _ ?hw83072 27 (.tmp 3) rfl (tb) (0) rfl (.agg #[.slice lad ln lc, .slice pad pn pc]) (HLT.out w4 K4.out) ?_
   case hw83072 => kernel_rfl
   simp only [Act.put, List.setIfInBounds_toArray, List.set_cons_zero, List.set_cons_succ]
   refine @BigFrame.wpList_want _ _ _ _ _ _ _ ?hw83071 ?_
   case hw83071 => kernel_rfl
   intro K hK
   go_simp
   go_at_call 11
   refine (HR3.out w4 K4.out).mono ?_
   rintro e w5 ⟨rfl, k5⟩
   have K5 := Lib.hid (K4.out.next1 k5)
   clear k5
   refine hK _ _ ?_
   clear hK K
   refine @BigFrame.wpList_want _ _ _ _ _ _ _ ?hw83073 ?_
   case hw83073 => kernel_rfl
   intro K hK
   go_simp
   refine hK _ _ ?_
   clear hK K
   refine @BigFrame.wpList_want _ _ _ _ _ _ _ ?hw83074 ?_
   case hw83074 => kernel_rfl
   intro K hK
   go_simp
   refine hK _ _ ?_
   clear hK K
   go_upto_region 8 with fail
   have KD : Kept w1.heap.size w1.heap.size w1 w5.drew := K5.out.drew
   have heq := GEQ.out
   have gd := macGuard25
   refine wp_region_noPanic ?_
   refine wp_region_held_drew (S := fun w' => Kept w1.heap.size w1.heap.size w1 w') (by kernel_rfl) (K5.out.drew) (fun hH => ?_)
   refine wpAnyH_take_at (i := 0) 60 (.agg #[.slice lad ln lc, .slice pad pn pc]) rfl rfl (by kernel_rfl) (by kernel_rfl) (by kernel_rfl) (fun _ _ _ h => h) (yieldsIf_load_known (by kernel_rfl) 27 _ rfl (tb) (0) rfl (.agg #[.slice lad ln lc, .slice pad pn pc]) (HLT.out)) hH ?_
   simp only [List.setIfInBounds_toArray, List.set_cons_zero, List.set_cons_succ]
   refine wpAnyH_take_ex (i := 1) 61 rfl rfl (by kernel_rfl) (by kernel_rfl) (by kernel_rfl) (fun _ _ _ _ h => h) (by kernel_rfl) hH ?_
   apply Exists.intro
   apply And.intro
   ·intro w9 _
    go_simp
    first | done | rfl
   simp only [List.setIfInBounds_toArray, List.set_cons_zero, List.set_cons_succ]
   refine wpAnyH_take_at (i := 3) 63 (.agg #[.slice lad ln lc, .slice pad pn pc]) rfl rfl (by kernel_rfl) (by kernel_rfl) (by kernel_rfl) (fun _ _ _ h => h) (yieldsIf_load_known (by kernel_rfl) 27 _ rfl (tb) (0) rfl (.agg #[.slice lad ln lc, .slice pad pn pc]) (HLT.out)) hH ?_
   simp only [List.setIfInBounds_toArray, List.set_cons_zero, List.set_cons_succ]
   refine wpAnyH_take_ex (i := 4) 64 rfl rfl (by kernel_rfl) (by kernel_rfl) (by kernel_rfl) (fun _ _ _ _ h => h) (by kernel_rfl) hH ?_
   apply Exists.intro
   apply And.intro
   ·intro w9 _
    go_simp
    first | done | rfl
   simp only [List.setIfInBounds_toArray, List.set_cons_zero, List.set_cons_succ]
   refine wpAnyH_ready (rs := [2]) (by kernel_rfl) (by simp) ?_
   refine AllReadyH.cons rfl (fun K hK => ?_) AllReadyH.nil
   rw [if_pos (by rfl)]
   go_simp
   go_wp2_with (go_at_call 14; refine (GPL2.out _ KD).mono ?_; rintro e x1 ⟨rfl, kx1⟩)
   have X1 : Kept w1.heap.size w1.heap.size w1 x1 := KD.next1 kx1
   refine hK.out _ _ (X1) (fun hH => ?_)
   clear hK K
   refine wpAnyH_ready (rs := [5]) (by kernel_rfl) (by simp) ?_
   refine AllReadyH.cons rfl (fun K hK => ?_) AllReadyH.nil
   rw [if_pos (by rfl)]
   go_simp
   go_wp2_with (go_at_call 21; refine (GRP2.out _ X1).mono ?_; rintro e x2 ⟨rfl, kx2⟩)
   have X2 : Kept w1.heap.size w1.heap.size w1 x2 := X1.next1 kx2
   refine hK.out _ _ (X2) (fun hH => ?_)
   clear hK K
   refine wpAnyH_take_ex (i := 6) 66 rfl rfl (by kernel_rfl) (by kernel_rfl) (by kernel_rfl) (fun _ _ _ _ h => h) (by kernel_rfl) hH ?_
   apply Exists.intro
   apply And.intro
   ·intro w9 _
    go_simp
    first | done | rfl
   simp only [List.setIfInBounds_toArray, List.set_cons_zero, List.set_cons_succ]
   refine wpAnyH_take_ex (i := 7) 67 rfl rfl (by kernel_rfl) (by kernel_rfl) (by kernel_rfl) (fun _ _ _ _ h => h) (by kernel_rfl) hH ?_
   apply Exists.intro
   apply And.intro
   ·intro w9 _
    go_simp
    first | done | rfl
   simp only [List.setIfInBounds_toArray, List.set_cons_zero, List.set_cons_succ]
   refine wpAnyH_take_at (i := 8) 68 (.agg #[.slice lad ln lc, .slice pad pn pc]) rfl rfl (by kernel_rfl) (by kernel_rfl) (by kernel_rfl) (fun _ _ _ h => h) (yieldsIf_load_known (by kernel_rfl) 27 _ rfl (tb) (0) rfl (.agg #[.slice lad ln lc, .slice pad pn pc]) (HLT.out)) hH ?_
   simp only [List.setIfInBounds_toArray, List.set_cons_zero, List.set_cons_succ]
   refine wpAnyH_take_at (i := 10) 70 (.agg #[.slice lad ln lc, .slice pad pn pc]) rfl rfl (by kernel_rfl) (by kernel_rfl) (by kernel_rfl) (fun _ _ _ h => h) (yieldsIf_load_known (by kernel_rfl) 27 _ rfl (tb) (0) rfl (.agg #[.slice lad ln lc, .slice pad pn pc]) (HLT.out)) hH ?_
   simp only [List.setIfInBounds_toArray, List.set_cons_zero, List.set_cons_succ]
   refine wpAnyH_ready (rs := [9]) (by kernel_rfl) (by simp) ?_
   refine AllReadyH.cons rfl (fun K hK => ?_) AllReadyH.nil
   rw [if_pos (by rfl)]
   go_simp
   go_wp2_with (go_at_call 15; refine (GNM2.out _ X2).mono ?_; rintro e x3 ⟨v1, rfl, i1, kx3⟩)
   have X3 : Kept w1.heap.size w1.heap.size w1 x3 := X2.next1 kx3
   obtain ⟨v1a, v1c, hv1⟩ := (ints_nums i1).shape
   subst hv1
   obtain ⟨v1n, hv1n⟩ : ∃ n, n = (sortI (Tt.names L)).length := ⟨_, rfl⟩
   rw [← hv1n] at i1 ⊢
   have I1 := Lib.hid i1
   clear i1 hv1n
   refine hK.out _ _ (X3) (fun hH => ?_)
   clear hK K
   refine wpAnyH_ready (rs := [11]) (by kernel_rfl) (by simp) ?_
   refine AllReadyH.cons rfl (fun K hK => ?_) AllReadyH.nil
   rw [if_pos (by rfl)]
   go_simp
   go_wp2_with (go_at_call 23; refine (GRN2.out _ X3).mono ?_; rintro e x4 ⟨v2, rfl, i2, kx4⟩)
   have X4 : Kept w1.heap.size w1.heap.size w1 x4 := X3.next1 kx4
   obtain ⟨v2a, v2c, hv2⟩ := (ints_nums i2).shape
   subst hv2
   obtain ⟨v2n, hv2n⟩ : ∃ n, n = (Tt.rnames L).length := ⟨_, rfl⟩
   rw [← hv2n] at i2 ⊢
   have I2 := Lib.hid i2
   have I3 := Lib.hid (I1.out.kept kx4)
   have HSM := Lib.hid (same_long8 _ _ _ _ _ _ x4 I3.out I2.out (GN66.out (by trivial)))
   rw [show (sortI (Tt.names L) == Tt.rnames L) = true by rw [beq_iff_eq]; exact GNS.out (by trivial)] at HSM
   clear i2 hv2n
   refine hK.out _ _ (X4) (fun hH => ?_)
   clear hK K
   refine wpAnyH_ready (rs := [12]) (by kernel_rfl) (by simp) ?_
   refine AllReadyH.cons rfl (fun K hK => ?_) AllReadyH.nil
   rw [if_pos (by rfl)]
   go_simp
   go_wp2_with (go_at_call 22; refine (HSM.out).mono ?_; rintro e x5 ⟨rfl, kx5⟩)
   have X5 : Kept w1.heap.size w1.heap.size w1 x5 := X4.next1 kx5
   refine hK.out _ _ (X5) (fun hH => ?_)
   clear hK K
   refine wpAnyH_take_ex (i := 13) 73 rfl rfl (by kernel_rfl) (by kernel_rfl) (by kernel_rfl) (fun _ _ _ _ h => h) (by kernel_rfl) hH ?_
   apply Exists.intro
   apply And.intro
   ·intro w9 _
    go_simp
    first | done | rfl
   simp only [List.setIfInBounds_toArray, List.set_cons_zero, List.set_cons_succ]
   refine wpAnyH_take_ex (i := 14) 74 rfl rfl (by kernel_rfl) (by kernel_rfl) (by kernel_rfl) (fun _ _ _ _ h => h) (by kernel_rfl) hH ?_
   apply Exists.intro
   apply And.intro
   ·intro w9 _
    go_simp
    first | done | rfl
   simp only [List.setIfInBounds_toArray, List.set_cons_zero, List.set_cons_succ]
   refine wpAnyH_take_ex (i := 15) 75 rfl rfl (by kernel_rfl) (by kernel_rfl) (by kernel_rfl) (fun _ _ _ _ h => h) (by kernel_rfl) hH ?_
   apply Exists.intro
   apply And.intro
   ·intro w9 _
    go_simp
    first | done | rfl
   simp only [List.setIfInBounds_toArray, List.set_cons_zero, List.set_cons_succ]
   refine wpAnyH_take_at (i := 16) 76 (.agg #[.slice lad ln lc, .slice pad pn pc]) rfl rfl (by kernel_rfl) (by kernel_rfl) (by kernel_rfl) (fun _ _ _ h => h) (yieldsIf_load_known (by kernel_rfl) 27 _ rfl (tb) (0) rfl (.agg #[.slice lad ln lc, .slice pad pn pc]) (HLT.out)) hH ?_
   simp only [List.setIfInBounds_toArray, List.set_cons_zero, List.set_cons_succ]
   refine wpAnyH_take_at (i := 18) 78 (.agg #[.slice lad ln lc, .slice pad pn pc]) rfl rfl (by kernel_rfl) (by kernel_rfl) (by kernel_rfl) (fun _ _ _ h => h) (yieldsIf_load_known (by kernel_rfl) 27 _ rfl (tb) (0) rfl (.agg #[.slice lad ln lc, .slice pad pn pc]) (HLT.out)) hH ?_
   simp only [List.setIfInBounds_toArray, List.set_cons_zero, List.set_cons_succ]
   refine wpAnyH_ready (rs := [17]) (by kernel_rfl) (by simp) ?_
   refine AllReadyH.cons rfl (fun K hK => ?_) AllReadyH.nil
   rw [if_pos (by rfl)]
   go_simp
   go_wp2_with (go_at_call 17; refine (GHA2.out _ X5).mono ?_; rintro e x6 ⟨rfl, kx6⟩)
   have X6 : Kept w1.heap.size w1.heap.size w1 x6 := X5.next1 kx6
   refine hK.out _ _ (X6) (fun hH => ?_)
   clear hK K
   refine wpAnyH_ready (rs := [19]) (by kernel_rfl) (by simp) ?_
   refine AllReadyH.cons rfl (fun K hK => ?_) AllReadyH.nil
   rw [if_pos (by rfl)]
   go_simp
   go_wp2_with (go_at_call 18; refine (GRH2.out _ X6).mono ?_; rintro e x7 ⟨rfl, kx7⟩)
   have X7 : Kept w1.heap.size w1.heap.size w1 x7 := X6.next1 kx7
   refine hK.out _ _ (X7) (fun hH => ?_)
   clear hK K
   refine wpAnyH_take_ex (i := 20) 80 rfl rfl (by kernel_rfl) (by kernel_rfl) (by kernel_rfl) (fun _ _ _ _ h => h) (by kernel_rfl) hH ?_
   apply Exists.intro
   apply And.intro
   ·intro w9 _
    go_simp
    first | done | rfl
   simp only [List.setIfInBounds_toArray, List.set_cons_zero, List.set_cons_succ]
   refine wpAnyH_take_ex (i := 21) 81 rfl rfl (by kernel_rfl) (by kernel_rfl) (by kernel_rfl) (fun _ _ _ _ h => h) (by kernel_rfl) hH ?_
   apply Exists.intro
   apply And.intro
   ·intro w9 _
    go_simp
    first | done | rfl
   simp only [List.setIfInBounds_toArray, List.set_cons_zero, List.set_cons_succ]
   refine wpAnyH_take_ex (i := 22) 82 rfl rfl (by kernel_rfl) (by kernel_rfl) (by kernel_rfl) (fun _ _ _ _ h => h) (by kernel_rfl) hH ?_
   apply Exists.intro
   apply And.intro
   ·intro w9 _
    go_simp
    first | done | rfl
   simp only [List.setIfInBounds_toArray, List.set_cons_zero, List.set_cons_succ]
   refine wpAnyH_take_at (i := 23) 83 (.agg #[.slice lad ln lc, .slice pad pn pc]) rfl rfl (by kernel_rfl) (by kernel_rfl) (by kernel_rfl) (fun _ _ _ h => h) (yieldsIf_load_known (by kernel_rfl) 27 _ rfl (tb) (0) rfl (.agg #[.slice lad ln lc, .slice pad pn pc]) (HLT.out)) hH ?_
   simp only [List.setIfInBounds_toArray, List.set_cons_zero, List.set_cons_succ]
   refine wpAnyH_take_at (i := 25) 85 (.agg #[.slice lad ln lc, .slice pad pn pc]) rfl rfl (by kernel_rfl) (by kernel_rfl) (by kernel_rfl) (fun _ _ _ h => h) (yieldsIf_load_known (by kernel_rfl) 27 _ rfl (tb) (0) rfl (.agg #[.slice lad ln lc, .slice pad pn pc]) (HLT.out)) hH ?_
   simp only [List.setIfInBounds_toArray, List.set_cons_zero, List.set_cons_succ]
   refine wpAnyH_ready (rs := [24]) (by kernel_rfl) (by simp) ?_
   refine AllReadyH.cons rfl (fun K hK => ?_) AllReadyH.nil
   rw [if_pos (by rfl)]
   go_simp
   go_wp2_with (go_at_call 20; refine (GPK2.out _ X7).mono ?_; rintro e x8 ⟨rfl, kx8⟩)
   have X8 : Kept w1.heap.size w1.heap.size w1 x8 := X7.next1 kx8
   refine hK.out _ _ (X8) (fun hH => ?_)
   clear hK K
   refine wpAnyH_ready (rs := [26]) (by kernel_rfl) (by simp) ?_
   refine AllReadyH.cons rfl (fun K hK => ?_) AllReadyH.nil
   rw [if_pos (by rfl)]
   go_simp
   go_wp2_with (go_at_call 24; refine (GRK2.out _ X8).mono ?_; rintro e x9 ⟨rfl, kx9⟩)
   have X9 : Kept w1.heap.size w1.heap.size w1 x9 := X8.next1 kx9
   refine hK.out _ _ (X9) (fun hH => ?_)
   clear hK K
   refine wpAnyH_take_ex (i := 27) 87 rfl rfl (by kernel_rfl) (by kernel_rfl) (by kernel_rfl) (fun _ _ _ _ h => h) (by kernel_rfl) hH ?_
   apply Exists.intro
   apply And.intro
   ·intro w9 _
    go_simp
    first | done | rfl
   simp only [List.setIfInBounds_toArray, List.set_cons_zero, List.set_cons_succ]
   refine wpAnyH_take_ex (i := 28) 88 rfl rfl (by kernel_rfl) (by kernel_rfl) (by kernel_rfl) (fun _ _ _ _ h => h) (by kernel_rfl) hH ?_
   apply Exists.intro
   apply And.intro
   ·intro w9 _
    go_simp
    first | done | rfl
   simp only [List.setIfInBounds_toArray, List.set_cons_zero, List.set_cons_succ]
   refine wpAnyH_done (by kernel_rfl) ?_ _
   refine NoPanic.normal ?_
   have HX9 := Lib.hid X9
   clear X9 X8 X7 X6 X5 X4 X3 X2 X1 KD heq kx1 kx2 kx3 kx4 kx5 kx6 kx7 kx8 kx9 I1 I2 I3 HSM hH
   have t0 := two_cell0 ((HX9.out.block tb (lt_of_block T1.out) (Nat.ne_of_lt (lt_of_block T1.out))).trans T1.out)
   by_cases hz0 : z < 0
   ·clear GIN GRS GRR GRA GHN GRL GNE
    have hzz : ¬ (0 ≤ z ∧ z ≤ 2 * (ln : Int) - 2) := by omega
    have GRE2 := Lib.hid (GRE.out (by trivial) hzz)
    rw [GNZ.out hzz] at GAT2
    clear hzz
    go_upto_region 10 with fail
    refine wp_region_lit ?_
    refine @BigFrame.wpList_want _ _ _ _ _ _ _ ?hw83088 ?_
    case hw83088 => kernel_rfl
    intro K hK
    go_simp
    refine hK _ _ ?_
    clear hK K
    refine @BigFrame.wpList_want _ _ _ _ _ _ _ ?hw83089 ?_
    case hw83089 => kernel_rfl
    intro K hK
    go_simp
    refine hK _ _ ?_
    clear hK K
    refine @BigFrame.wpList_want _ _ _ _ _ _ _ ?hw83090 ?_
    case hw83090 => kernel_rfl
    intro K hK
    go_simp
    refine hK _ _ ?_
    clear hK K
    refine @wpList_skip _ _ _ _ _ _ _ ?hw83091 ?_
    case hw83091 => kernel_rfl
    simp only [Act.put, List.setIfInBounds_toArray, List.set_cons_zero, List.set_cons_succ]
    refine @wpList_skip _ _ _ _ _ _ _ ?hw83092 ?_
    case hw83092 => kernel_rfl
    simp only [Act.put, List.setIfInBounds_toArray, List.set_cons_zero, List.set_cons_succ]
    refine @wpList_skip _ _ _ _ _ _ _ ?hw83093 ?_
    case hw83093 => kernel_rfl
    simp only [Act.put, List.setIfInBounds_toArray, List.set_cons_zero, List.set_cons_succ]
    refine @wpList_skip _ _ _ _ _ _ _ ?hw83094 ?_
    case hw83094 => kernel_rfl
    simp only [Act.put, List.setIfInBounds_toArray, List.set_cons_zero, List.set_cons_succ]
    refine @wpList_skip _ _ _ _ _ _ _ ?hw83095 ?_
    case hw83095 => kernel_rfl
    simp only [Act.put, List.setIfInBounds_toArray, List.set_cons_zero, List.set_cons_succ]
    refine @wpList_skip _ _ _ _ _ _ _ ?hw83096 ?_
    case hw83096 => kernel_rfl
    simp only [Act.put, List.setIfInBounds_toArray, List.set_cons_zero, List.set_cons_succ]
    refine @wpList_skip _ _ _ _ _ _ _ ?hw83097 ?_
    case hw83097 => kernel_rfl
    simp only [Act.put, List.setIfInBounds_toArray, List.set_cons_zero, List.set_cons_succ]
    refine @BigFrame.wpList_want _ _ _ _ _ _ _ ?hw83098 ?_
    case hw83098 => kernel_rfl
    intro K hK
    go_simp
    refine hK _ _ ?_
    clear hK K
    clear t0
    go_upto_region 11 with fail
    refine wp_region_lit ?_
    refine @wpList_load_known _ _ _ _ _ _ _ ?hw83077 27 (.tmp 3) rfl (tb) (0) rfl (.agg #[.slice lad ln lc, .slice pad pn pc]) (HLT.out x9 HX9.out) ?_
    case hw83077 => kernel_rfl
    simp only [Act.put, List.setIfInBounds_toArray, List.set_cons_zero, List.set_cons_succ]
    refine @BigFrame.wpList_want _ _ _ _ _ _ _ ?hw83078 ?_
    case hw83078 => kernel_rfl
    intro K hK
    go_simp
    refine hK _ _ ?_
    clear hK K
    refine @BigFrame.wpList_want _ _ _ _ _ _ _ ?hw83075 ?_
    case hw83075 => kernel_rfl
    intro K hK
    go_simp
    go_at_call 16
    refine (GRE2.out x9 HX9.out).mono ?_
    rintro e y1 ⟨rfl, ky1⟩
    have Y1 := Lib.hid (HX9.out.next1 ky1)
    clear ky1
    refine hK _ _ ?_
    clear hK K
    refine @BigFrame.wpList_want _ _ _ _ _ _ _ ?hw83079 ?_
    case hw83079 => kernel_rfl
    intro K hK
    go_simp
    refine hK _ _ ?_
    clear hK K
    refine @BigFrame.wpList_want _ _ _ _ _ _ _ ?hw83080 ?_
    case hw83080 => kernel_rfl
    intro K hK
    go_simp
    refine hK _ _ ?_
    clear hK K
    refine @BigFrame.wpList_want _ _ _ _ _ _ _ ?hw83081 ?_
    case hw83081 => kernel_rfl
    intro K hK
    go_simp
    refine hK _ _ ?_
    clear hK K
    refine @wpList_load_known _ _ _ _ _ _ _ ?hw83082 27 (.tmp 3) rfl (tb) (0) rfl (.agg #[.slice lad ln lc, .slice pad pn pc]) (HLT.out y1 Y1.out) ?_
    case hw83082 => kernel_rfl
    simp only [Act.put, List.setIfInBounds_toArray, List.set_cons_zero, List.set_cons_succ]
    refine @BigFrame.wpList_want _ _ _ _ _ _ _ ?hw83083 ?_
    case hw83083 => kernel_rfl
    intro K hK
    go_simp
    refine hK _ _ ?_
    clear hK K
    refine @BigFrame.wpList_want _ _ _ _ _ _ _ ?hw83076 ?_
    case hw83076 => kernel_rfl
    intro K hK
    go_simp
    go_at_call 19
    refine (GAT2.out y1 Y1.out).mono ?_
    rintro e y2 ⟨rfl, ky2⟩
    have Y2 := Lib.hid (Y1.out.next1 ky2)
    clear ky2
    refine hK _ _ ?_
    clear hK K
    refine @wpL_build0 _ _ _ _ _ _ _ ?hw83084 39 rfl _ (build_zh _) ?_
    case hw83084 => kernel_rfl
    simp only [Act.put, List.setIfInBounds_toArray, List.set_cons_zero, List.set_cons_succ]
    refine @wpL_eql _ _ _ _ _ _ _ ?hw83085 _ _ _ _ rfl (zeros32) (zeros32) rfl rfl macGuard25 (true) (ZEQ.out _) ?_
    case hw83085 => kernel_rfl
    simp only [Act.put, List.setIfInBounds_toArray, List.set_cons_zero, List.set_cons_succ]
    refine @BigFrame.wpList_want _ _ _ _ _ _ _ ?hw83086 ?_
    case hw83086 => kernel_rfl
    intro K hK
    go_simp
    refine hK _ _ ?_
    clear hK K
    refine @BigFrame.wpList_want _ _ _ _ _ _ _ ?hw83087 ?_
    case hw83087 => kernel_rfl
    intro K hK
    go_simp
    refine hK _ _ ?_
    clear hK K
    go_wp2
    go_ret
    exact ⟨rfl, K1.out.next1 Y2.out⟩
   ·by_cases hz1 : z > 2 * (ln : Int) - 2
    ·clear GIN GRS GRR GRA GHN GRL GNE
     have hzz : ¬ (0 ≤ z ∧ z ≤ 2 * (ln : Int) - 2) := by omega
     have GRE2 := Lib.hid (GRE.out (by trivial) hzz)
     rw [GNZ.out hzz] at GAT2
     clear hzz
     go_upto_region 10 with fail
     refine wp_region_lit ?_
     refine @BigFrame.wpList_want _ _ _ _ _ _ _ ?hw83099 ?_
     case hw83099 => kernel_rfl
     intro K hK
     go_simp
     refine hK _ _ ?_
     clear hK K
     refine @BigFrame.wpList_want _ _ _ _ _ _ _ ?hw83100 ?_
     case hw83100 => kernel_rfl
     intro K hK
     go_simp
     refine hK _ _ ?_
     clear hK K
     refine @BigFrame.wpList_want _ _ _ _ _ _ _ ?hw83101 ?_
     case hw83101 => kernel_rfl
     intro K hK
     go_simp
     refine hK _ _ ?_
     clear hK K
     refine @BigFrame.wpList_want _ _ _ _ _ _ _ ?hw83102 ?_
     case hw83102 => kernel_rfl
     intro K hK
     go_simp
     refine hK _ _ ?_
     clear hK K
     refine @BigFrame.wpList_want _ _ _ _ _ _ _ ?hw83103 ?_
     case hw83103 => kernel_rfl
     intro K hK
     go_simp
     refine hK _ _ ?_
     clear hK K
     refine @BigFrame.wpList_want _ _ _ _ _ _ _ ?hw83104 ?_
     case hw83104 => kernel_rfl
     intro K hK
     go_simp
     refine hK _ _ ?_
     clear hK K
     refine @BigFrame.wpList_want _ _ _ _ _ _ _ ?hw83105 ?_
     case hw83105 => kernel_rfl
     intro K hK
     go_simp
     refine hK _ _ ?_
     clear hK K
     refine @BigFrame.wpList_want _ _ _ _ _ _ _ ?hw83106 ?_
     case hw83106 => kernel_rfl
     intro K hK
     go_simp
     refine hK _ _ ?_
     clear hK K
     rw [HW0.out]
     refine @BigFrame.wpList_want _ _ _ _ _ _ _ ?hw83107 ?_
     case hw83107 => kernel_rfl
     intro K hK
     go_simp
     refine hK _ _ ?_
     clear hK K
     rw [HW1.out]
     refine @BigFrame.wpList_want _ _ _ _ _ _ _ ?hw83108 ?_
     case hw83108 => kernel_rfl
     intro K hK
     go_simp
     refine hK _ _ ?_
     clear hK K
     refine @BigFrame.wpList_want _ _ _ _ _ _ _ ?hw83109 ?_
     case hw83109 => kernel_rfl
     intro K hK
     go_simp
     refine hK _ _ ?_
     clear hK K
     clear t0
     go_upto_region 11 with fail
     refine wp_region_lit ?_
     refine @wpList_load_known _ _ _ _ _ _ _ ?hw83077 27 (.tmp 3) rfl (tb) (0) rfl (.agg #[.slice lad ln lc, .slice pad pn pc]) (HLT.out x9 HX9.out) ?_
     case hw83077 => kernel_rfl
     simp only [Act.put, List.setIfInBounds_toArray, List.set_cons_zero, List.set_cons_succ]
     refine @BigFrame.wpList_want _ _ _ _ _ _ _ ?hw83078 ?_
     case hw83078 => kernel_rfl
     intro K hK
     go_simp
     refine hK _ _ ?_
     clear hK K
     refine @BigFrame.wpList_want _ _ _ _ _ _ _ ?hw83075 ?_
     case hw83075 => kernel_rfl
     intro K hK
     go_simp
     go_at_call 16
     refine (GRE2.out x9 HX9.out).mono ?_
     rintro e y1 ⟨rfl, ky1⟩
     have Y1 := Lib.hid (HX9.out.next1 ky1)
     clear ky1
     refine hK _ _ ?_
     clear hK K
     refine @BigFrame.wpList_want _ _ _ _ _ _ _ ?hw83079 ?_
     case hw83079 => kernel_rfl
     intro K hK
     go_simp
     refine hK _ _ ?_
     clear hK K
     refine @BigFrame.wpList_want _ _ _ _ _ _ _ ?hw83080 ?_
     case hw83080 => kernel_rfl
     intro K hK
     go_simp
     refine hK _ _ ?_
     clear hK K
     refine @BigFrame.wpList_want _ _ _ _ _ _ _ ?hw83081 ?_
     case hw83081 => kernel_rfl
     intro K hK
     go_simp
     refine hK _ _ ?_
     clear hK K
     refine @wpList_load_known _ _ _ _ _ _ _ ?hw83082 27 (.tmp 3) rfl (tb) (0) rfl (.agg #[.slice lad ln lc, .slice pad pn pc]) (HLT.out y1 Y1.out) ?_
     case hw83082 => kernel_rfl
     simp only [Act.put, List.setIfInBounds_toArray, List.set_cons_zero, List.set_cons_succ]
     refine @BigFrame.wpList_want _ _ _ _ _ _ _ ?hw83083 ?_
     case hw83083 => kernel_rfl
     intro K hK
     go_simp
     refine hK _ _ ?_
     clear hK K
     refine @BigFrame.wpList_want _ _ _ _ _ _ _ ?hw83076 ?_
     case hw83076 => kernel_rfl
     intro K hK
     go_simp
     go_at_call 19
     refine (GAT2.out y1 Y1.out).mono ?_
     rintro e y2 ⟨rfl, ky2⟩
     have Y2 := Lib.hid (Y1.out.next1 ky2)
     clear ky2
     refine hK _ _ ?_
     clear hK K
     refine @wpL_build0 _ _ _ _ _ _ _ ?hw83084 39 rfl _ (build_zh _) ?_
     case hw83084 => kernel_rfl
     simp only [Act.put, List.setIfInBounds_toArray, List.set_cons_zero, List.set_cons_succ]
     refine @wpL_eql _ _ _ _ _ _ _ ?hw83085 _ _ _ _ rfl (zeros32) (zeros32) rfl rfl macGuard25 (true) (ZEQ.out _) ?_
     case hw83085 => kernel_rfl
     simp only [Act.put, List.setIfInBounds_toArray, List.set_cons_zero, List.set_cons_succ]
     refine @BigFrame.wpList_want _ _ _ _ _ _ _ ?hw83086 ?_
     case hw83086 => kernel_rfl
     intro K hK
     go_simp
     refine hK _ _ ?_
     clear hK K
     refine @BigFrame.wpList_want _ _ _ _ _ _ _ ?hw83087 ?_
     case hw83087 => kernel_rfl
     intro K hK
     go_simp
     refine hK _ _ ?_
     clear hK K
     go_wp2
     go_ret
     exact ⟨rfl, K1.out.next1 Y2.out⟩
    ·clear GRE GNZ
     have hzz : 0 ≤ z ∧ z ≤ 2 * (ln : Int) - 2 := by omega
     have hin := GIN.out hzz
     have GRS2 := Lib.hid (GRS.out (by trivial) hin)
     have GRR2 := Lib.hid (GRR.out (by trivial) hin)
     have GRA2 := Lib.hid (GRA.out (by trivial) hin)
     have GRL2 := Lib.hid (GRL.out (by trivial) hin)
     rw [← GHN.out hzz, ← HNC.out] at GRA2
     rw [show ((z.toNat : Nat) : Int) = z by omega] at GRS2 GRR2 GRA2
     clear hzz hin
     go_upto_region 10 with fail
     refine wp_region_lit ?_
     refine @BigFrame.wpList_want _ _ _ _ _ _ _ ?hw83110 ?_
     case hw83110 => kernel_rfl
     intro K hK
     go_simp
     refine hK _ _ ?_
     clear hK K
     refine @BigFrame.wpList_want _ _ _ _ _ _ _ ?hw83111 ?_
     case hw83111 => kernel_rfl
     intro K hK
     go_simp
     refine hK _ _ ?_
     clear hK K
     refine @BigFrame.wpList_want _ _ _ _ _ _ _ ?hw83112 ?_
     case hw83112 => kernel_rfl
     intro K hK
     go_simp
     refine hK _ _ ?_
     clear hK K
     refine @BigFrame.wpList_want _ _ _ _ _ _ _ ?hw83113 ?_
     case hw83113 => kernel_rfl
     intro K hK
     go_simp
     refine hK _ _ ?_
     clear hK K
     refine @BigFrame.wpList_want _ _ _ _ _ _ _ ?hw83114 ?_
     case hw83114 => kernel_rfl
     intro K hK
     go_simp
     refine hK _ _ ?_
     clear hK K
     refine @BigFrame.wpList_want _ _ _ _ _ _ _ ?hw83115 ?_
     case hw83115 => kernel_rfl
     intro K hK
     go_simp
     refine hK _ _ ?_
     clear hK K
     refine @BigFrame.wpList_want _ _ _ _ _ _ _ ?hw83116 ?_
     case hw83116 => kernel_rfl
     intro K hK
     go_simp
     refine hK _ _ ?_
     clear hK K
     refine @BigFrame.wpList_want _ _ _ _ _ _ _ ?hw83117 ?_
     case hw83117 => kernel_rfl
     intro K hK
     go_simp
     refine hK _ _ ?_
     clear hK K
     rw [HW0.out]
     refine @BigFrame.wpList_want _ _ _ _ _ _ _ ?hw83118 ?_
     case hw83118 => kernel_rfl
     intro K hK
     go_simp
     refine hK _ _ ?_
     clear hK K
     rw [HW1.out]
     refine @BigFrame.wpList_want _ _ _ _ _ _ _ ?hw83119 ?_
     case hw83119 => kernel_rfl
     intro K hK
     go_simp
     refine hK _ _ ?_
     clear hK K
     refine @BigFrame.wpList_want _ _ _ _ _ _ _ ?hw83120 ?_
     case hw83120 => kernel_rfl
     intro K hK
     go_simp
     refine hK _ _ ?_
     clear hK K
     clear t0
     go_upto_region 12 with fail
     have YD : Kept w1.heap.size w1.heap.size w1 x9.drew := HX9.out.drew
     have heq := GNE.out
     refine wp_region_noPanic ?_
     refine wp_region_held_drew (S := fun w' => Kept w1.heap.size w1.heap.size w1 w') (by kernel_rfl) (HX9.out.drew) (fun hH => ?_)
     refine wpAnyH_take_at (i := 0) 112 (.agg #[.slice lad ln lc, .slice pad pn pc]) rfl rfl (by kernel_rfl) (by kernel_rfl) (by kernel_rfl) (fun _ _ _ h => h) (yieldsIf_load_known (by kernel_rfl) 27 _ rfl (tb) (0) rfl (.agg #[.slice lad ln lc, .slice pad pn pc]) (HLT.out)) hH ?_
     simp only [List.setIfInBounds_toArray, List.set_cons_zero, List.set_cons_succ]
     refine wpAnyH_take_ex (i := 1) 113 rfl rfl (by kernel_rfl) (by kernel_rfl) (by kernel_rfl) (fun _ _ _ _ h => h) (by kernel_rfl) hH ?_
     apply Exists.intro
     apply And.intro
     ·intro w9 _
      go_simp
      first | done | rfl
     simp only [List.setIfInBounds_toArray, List.set_cons_zero, List.set_cons_succ]
     refine wpAnyH_take_at (i := 3) 115 (.agg #[.slice lad ln lc, .slice pad pn pc]) rfl rfl (by kernel_rfl) (by kernel_rfl) (by kernel_rfl) (fun _ _ _ h => h) (yieldsIf_load_known (by kernel_rfl) 27 _ rfl (tb) (0) rfl (.agg #[.slice lad ln lc, .slice pad pn pc]) (HLT.out)) hH ?_
     simp only [List.setIfInBounds_toArray, List.set_cons_zero, List.set_cons_succ]
     refine wpAnyH_take_ex (i := 4) 116 rfl rfl (by kernel_rfl) (by kernel_rfl) (by kernel_rfl) (fun _ _ _ _ h => h) (by kernel_rfl) hH ?_
     apply Exists.intro
     apply And.intro
     ·intro w9 _
      go_simp
      first | done | rfl
     simp only [List.setIfInBounds_toArray, List.set_cons_zero, List.set_cons_succ]
     refine wpAnyH_ready (rs := [2]) (by kernel_rfl) (by simp) ?_
     refine AllReadyH.cons rfl (fun K hK => ?_) AllReadyH.nil
     rw [if_pos (by rfl)]
     go_simp
     go_wp2_with (go_at_call 16; refine (GRS2.out _ YD).mono ?_; rintro e y1 ⟨v1, rfl, i1, ky1⟩)
     have Y1 : Kept w1.heap.size w1.heap.size w1 y1 := YD.next1 ky1
     obtain ⟨v1a, v1c, hv1⟩ := (ints_nums i1).shape
     subst hv1
     obtain ⟨v1n, hv1n⟩ : ∃ n, n = (Tt.resNode L P z.toNat).length := ⟨_, rfl⟩
     rw [← hv1n] at i1 ⊢
     have I1 := Lib.hid i1
     have HVN := Lib.hid hv1n
     clear i1 hv1n
     refine hK.out _ _ (Y1) (fun hH => ?_)
     clear hK K
     refine wpAnyH_ready (rs := [5]) (by kernel_rfl) (by simp) ?_
     refine AllReadyH.cons rfl (fun K hK => ?_) AllReadyH.nil
     rw [if_pos (by rfl)]
     go_simp
     go_wp2_with (go_at_call 25; refine (GRR2.out _ Y1).mono ?_; rintro e y2 ⟨v2, rfl, i2, ky2⟩)
     have Y2 : Kept w1.heap.size w1.heap.size w1 y2 := Y1.next1 ky2
     obtain ⟨v2a, v2c, hv2⟩ := (ints_nums i2).shape
     subst hv2
     obtain ⟨v2n, hv2n⟩ : ∃ n, n = (Tt.resNode L P z.toNat).length := ⟨_, rfl⟩
     rw [← hv2n] at i2 ⊢
     have I2 := Lib.hid i2
     have I3 := Lib.hid (I1.out.kept ky2)
     have HSM := Lib.hid (same_long8 _ _ _ _ _ _ y2 I3.out I2.out GRL2.out)
     rw [beq_self_eq_true] at HSM
     clear i2 hv2n
     refine hK.out _ _ (Y2) (fun hH => ?_)
     clear hK K
     refine wpAnyH_ready (rs := [6]) (by kernel_rfl) (by simp) ?_
     refine AllReadyH.cons rfl (fun K hK => ?_) AllReadyH.nil
     rw [if_pos (by rfl)]
     go_simp
     go_wp2_with (go_at_call 22; refine (HSM.out).mono ?_; rintro e y3 ⟨rfl, ky3⟩)
     have Y3 : Kept w1.heap.size w1.heap.size w1 y3 := Y2.next1 ky3
     refine hK.out _ _ (Y3) (fun hH => ?_)
     clear hK K
     refine wpAnyH_take_ex (i := 7) 119 rfl rfl (by kernel_rfl) (by kernel_rfl) (by kernel_rfl) (fun _ _ _ _ h => h) (by kernel_rfl) hH ?_
     apply Exists.intro
     apply And.intro
     ·intro w9 _
      go_simp
      first | done | rfl
     simp only [List.setIfInBounds_toArray, List.set_cons_zero, List.set_cons_succ]
     refine wpAnyH_take_at (i := 8) 120 (.agg #[.slice lad ln lc, .slice pad pn pc]) rfl rfl (by kernel_rfl) (by kernel_rfl) (by kernel_rfl) (fun _ _ _ h => h) (yieldsIf_load_known (by kernel_rfl) 27 _ rfl (tb) (0) rfl (.agg #[.slice lad ln lc, .slice pad pn pc]) (HLT.out)) hH ?_
     simp only [List.setIfInBounds_toArray, List.set_cons_zero, List.set_cons_succ]
     refine wpAnyH_take_ex (i := 9) 121 rfl rfl (by kernel_rfl) (by kernel_rfl) (by kernel_rfl) (fun _ _ _ _ h => h) (by kernel_rfl) hH ?_
     apply Exists.intro
     apply And.intro
     ·intro w9 _
      go_simp
      first | done | rfl
     simp only [List.setIfInBounds_toArray, List.set_cons_zero, List.set_cons_succ]
     refine wpAnyH_take_at (i := 11) 123 (.agg #[.slice lad ln lc, .slice pad pn pc]) rfl rfl (by kernel_rfl) (by kernel_rfl) (by kernel_rfl) (fun _ _ _ h => h) (yieldsIf_load_known (by kernel_rfl) 27 _ rfl (tb) (0) rfl (.agg #[.slice lad ln lc, .slice pad pn pc]) (HLT.out)) hH ?_
     simp only [List.setIfInBounds_toArray, List.set_cons_zero, List.set_cons_succ]
     refine wpAnyH_take_ex (i := 12) 124 rfl rfl (by kernel_rfl) (by kernel_rfl) (by kernel_rfl) (fun _ _ _ _ h => h) (by kernel_rfl) hH ?_
     apply Exists.intro
     apply And.intro
     ·intro w9 _
      go_simp
      first | done | rfl
     simp only [List.setIfInBounds_toArray, List.set_cons_zero, List.set_cons_succ]
     refine wpAnyH_ready (rs := [10]) (by kernel_rfl) (by simp) ?_
     refine AllReadyH.cons rfl (fun K hK => ?_) AllReadyH.nil
     rw [if_pos (by rfl)]
     go_simp
     go_wp2_with (go_at_call 19; refine (GAT2.out _ Y3).mono ?_; rintro e y4 ⟨rfl, ky4⟩)
     have Y4 : Kept w1.heap.size w1.heap.size w1 y4 := Y3.next1 ky4
     refine hK.out _ _ (Y4) (fun hH => ?_)
     clear hK K
     refine wpAnyH_ready (rs := [13]) (by kernel_rfl) (by simp) ?_
     refine AllReadyH.cons rfl (fun K hK => ?_) AllReadyH.nil
     rw [if_pos (by rfl)]
     go_simp
     go_wp2_with (go_at_call 26; refine (GRA2.out _ Y4).mono ?_; rintro e y5 ⟨rfl, ky5⟩)
     have Y5 : Kept w1.heap.size w1.heap.size w1 y5 := Y4.next1 ky5
     refine hK.out _ _ (Y5) (fun hH => ?_)
     clear hK K
     refine wpAnyH_take_at (i := 14) 126 (.bool true) rfl rfl (by kernel_rfl) (by kernel_rfl) (by kernel_rfl) (fun _ _ _ h => h) (yieldsIf_eql8 (by kernel_rfl) _ _ _ _ rfl (nc) (nc) rfl rfl macGuard25 (true) (GNE.out)) hH ?_
     simp only [List.setIfInBounds_toArray, List.set_cons_zero, List.set_cons_succ]
     refine wpAnyH_take_ex (i := 15) 127 rfl rfl (by kernel_rfl) (by kernel_rfl) (by kernel_rfl) (fun _ _ _ _ h => h) (by kernel_rfl) hH ?_
     apply Exists.intro
     apply And.intro
     ·intro w9 _
      go_simp
      first | done | rfl
     simp only [List.setIfInBounds_toArray, List.set_cons_zero, List.set_cons_succ]
     refine wpAnyH_take_ex (i := 16) 6 rfl rfl (by kernel_rfl) (by kernel_rfl) (by kernel_rfl) (fun _ _ _ _ h => h) (by kernel_rfl) hH ?_
     apply Exists.intro
     apply And.intro
     ·intro w9 _
      go_simp
      first | done | rfl
     simp only [List.setIfInBounds_toArray, List.set_cons_zero, List.set_cons_succ]
     refine wpAnyH_done (by kernel_rfl) ?_ _
     refine NoPanic.normal ?_
     go_wp2
     go_ret
     exact ⟨rfl, K1.out.next1 Y5⟩

end Go.Proofs.YtilpehpiikdkbaaGreatDoor
