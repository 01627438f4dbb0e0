/-
 The law TreePaths.
-/
import Derived.Test.YtaobiofngnfdiaaGreatDoorHM
import Derived.Test.YtaobiofngnfdiaaGreatDoorHL
import Derived.Test.YtaobiofngnfdiaaGreatDoorTreeSame
import Derived.Test.YtaobiofngnfdiaaGreatDoorTreeFew

namespace Go.Proofs.YtaobiofngnfdiaaGreatDoor
open Go.RowKit Go.Lib
open List renaming setIfInBounds_toArray → sA, set_cons_zero → sB, set_cons_succ → sC
open BigFrame renaming wpList_want → wQ

theorem few_sizesP {L : List Lf} {P : List Pr} (h : Tt.few L P = true) : L.length ≤ 1000 ∧ P.length ≤ 1000 ∧ ∀ p ∈ P, p.loose.length ≤ 1000 := by
 simp only [Tt.few, Tt.fewp, Bool.and_eq_true, decide_eq_true_eq, List.all_eq_true] at h;exact ⟨by omega, by omega, fun p hp => Nat.le_trans (h.2.2 p hp) (by decide)⟩
theorem Tt.right_loose66 {L : List Lf} {P : List Pr} (h : Tt.right L P = true) : ∀ p ∈ P, p.loose.length ≤ 66 := fun p hp => by
 obtain ⟨h1, _, h3⟩ := Tt.right_parts h;exact Nat.le_trans (Tt.parents_loose h1 P 0 h3 p hp) (by decide)
set_option maxRecDepth 100000 in
set_option maxHeartbeats 6400000 in
theorem treepaths_walk (lv pv : Value) (L : List Lf) (P : List Pr) (x : Int) (pub : List UInt8) (hpub : pub.length = 32) (b : UInt8) (w : World) (hL : Lvs w lv L) (hP : Pts w pv P) (ht : Tab w) :
  Calls Tryz.prog 6 #[.agg #[lv, pv], .int .i64 x, .agg (bcells pub).toArray, .int .u8 (b.toNat : Int)] w fun e w' => e = .returned (.bool true) ∧ Kept w.heap.size w.heap.size w w' := by
 have ka := (Kept.refl w.heap.size w.heap.size w).alloc (Nat.le_refl _) (.cells #[lv, pv] 27)
 have ta := heap_new w (.cells #[lv, pv] 27)
 have sa : (w.alloc (.cells #[lv, pv] 27)).heap.size = w.heap.size + 1 := by simp
 have hL1 := hL.kept ka;have hP1 := hP.kept ka;have ht1 := ht.ontoP ka;obtain ⟨lad, lc, rfl⟩ := hL.shape;obtain ⟨pad, pc, rfl⟩ := hP.shape;obtain ⟨fw, hfw⟩ : ∃ fw, fw = Tt.few L P := ⟨_, rfl⟩;obtain ⟨rt, hrt⟩ : ∃ rt, rt = Tt.right L P := ⟨_, rfl⟩;have hsz := fun h : fw = true => few_sizesP (L := L) (P := P) (hfw ▸ h)
 have hr := fun h : rt = true => (show Tt.right L P = true from hrt ▸ h)
 obtain ⟨D, hD⟩ : ∃ D, D = (bcells pub).toArray := ⟨_, rfl⟩;have hdz : D.size = 32 := by rw [hD, List.size_toArray, bcells_length, hpub]
 have HINF := Lib.hid (show (Tryz.prog.info? 35).map (·.size) = some D.size by rw [hD]; exact hashInfoT (by rw [bcells_length, hpub]))
 obtain ⟨ln, hln⟩ : ∃ ln, ln = L.length := ⟨_, rfl⟩;obtain ⟨pn, hpn⟩ : ∃ pn, pn = P.length := ⟨_, rfl⟩;obtain ⟨m, hm⟩ : ∃ m, m = (Bo.Direct (ln : Int) x).length := ⟨_, rfl⟩;have HKC := Lib.hid (fun (u : World) => keys_calls8 lad pad ln lc pn pc m b x hm.symm u)
 obtain ⟨KS, hKS⟩ : ∃ KS, KS = Tt.keysOf b m := ⟨_, rfl⟩;rw [← hKS] at HKC;rw [← hln, ← hpn] at ka ta sa hL1 hP1 ht1 ⊢;rw [← hD];have HDE := Lib.hid hD;obtain ⟨bi, hbi⟩ : ∃ bi : Int, bi = (b.toNat : Int) := ⟨_, rfl⟩;rw [← hbi] at HKC ⊢;clear hD hdz hm hKS hbi;clear hln hpn
 go_enter Tryz.func6, Tryz.ntmps6
 go_upto_region 1 with fail
 generalize w.alloc (.cells #[.slice lad ln lc, .slice pad pn pc] 27) = wa at ka ta sa hL1 hP1 ht1 ⊢
 have kb := (Kept.refl wa.heap.size wa.heap.size wa).alloc (Nat.le_refl _) (.cells D 35)
 have eb := heap_new wa (.cells D 35)
 have tb0 := (kb.block _ (lt_of_block ta) (Nat.ne_of_lt (lt_of_block ta))).trans ta;have hL2 := hL1.kept kb;have hP2 := hP1.kept kb;have ht2 := ht1.ontoP kb;generalize wa.alloc (.cells D 35) = w1 at kb eb tb0 hL2 hP2 ht2 ⊢
 rw [sa] at eb
 (try rw [sa])
 obtain ⟨tb, htb⟩ : ∃ tb, tb = w.heap.size := ⟨_, rfl⟩;obtain ⟨lb, hlb⟩ : ∃ lb, lb = w.heap.size + 1 := ⟨_, rfl⟩;rw [← hlb] at eb
 (try rw [← hlb])
 rw [← htb] at tb0
 (try rw [← htb])
 have K1 := Lib.hid (ka.next1 kb);have T1 := Lib.hid tb0;have E1 := Lib.hid eb;have HLE := Lib.hid (fun (x : World) (k : Kept w1.heap.size w1.heap.size w1 x) => run_loadVar_row x lb 35 35 _ (0, 0) _ ((k.block lb (lt_of_block E1.out) (Nat.ne_of_lt (lt_of_block E1.out))).trans E1.out) Tryz.underlying35 rfl HINF.out)
 have HLV := Lib.hid hL2;have HPV := Lib.hid hP2;have HTV := Lib.hid ht2;clear hL hP ht hL1 hP1 ht1 hL2 hP2 ht2 ka ta sa kb eb tb0 htb hlb;have HLT := Lib.hid (fun (x : World) (k : Kept w1.heap.size w1.heap.size w1 x) => run_loadVar_row x tb 27 27 _ (0, 0) _ ((k.block tb (lt_of_block T1.out) (Nat.ne_of_lt (lt_of_block T1.out))).trans T1.out) Tryz.underlying27 rfl treeInfo)
 have HFW := Lib.hid (fun (x : World) (k : Kept w1.heap.size w1.heap.size w1 x) => few_calls8 _ _ L P x (HLV.out.kept k) (HPV.out.kept k))
 rw [← hfw] at HFW;have HAW := Lib.hid (fun x => awake_calls8 x)
 have HRF := Lib.hid (fun (hf : fw = true) (x : World) (k : Kept w1.heap.size w1.heap.size w1 x) => refright_calls8 _ _ L P x (HLV.out.kept k) (HPV.out.kept k) (hsz hf).2.2)
 rw [← hrt] at HRF;have HAC := Lib.hid (fun (hf : fw = true) (h : rt = true) (kv : Value) (u : World) (k : Kept w1.heap.size w1.heap.size w1 u) (hK : Hs u kv KS) => path_any _ _ L P x pub hpub kv KS u (HLV.out.kept k) (HPV.out.kept k) (hsz hf).2.2 (hr h) hK (HTV.out.ontoP k))
 have HDC := Lib.hid (fun (hf : fw = true) (h : rt = true) (kv : Value) (u : World) (k : Kept w1.heap.size w1.heap.size w1 u) (hK : Hs u kv KS) => refpath_any _ _ L P x pub hpub kv KS u (HLV.out.kept k) (HPV.out.kept k) (hsz hf).2.2 (hr h) hK)
 have HPL := Lib.hid (fun h : rt = true => (show ∀ p ∈ Tt.pathP L P x KS, p.loose.length ≤ 66 from Tt.pathP_loose (L := L) (P := P) (b := 66) (Tt.right_loose66 (hr h)) x KS))
 have HNL := Lib.hid (fun hf : fw = true => Nat.le_trans (Tt.pathL_length L P x pub KS) (hsz hf).1)
 have HNP := Lib.hid (fun hf : fw = true => Nat.le_trans (Tt.pathP_length L P x KS) (hsz hf).2.1)
 rw [← HDE.out] at HAC HDC;obtain ⟨er, her⟩ : ∃ er, er = Tt.pathErr L x KS.length := ⟨_, rfl⟩;obtain ⟨L9, hL9⟩ : ∃ L9, L9 = Tt.pathL L P x pub KS := ⟨_, rfl⟩;obtain ⟨P9, hP9⟩ : ∃ P9, P9 = Tt.pathP L P x KS := ⟨_, rfl⟩;rw [← her, ← hL9, ← hP9] at HAC HDC;rw [← hP9] at HPL HNP;rw [← hL9] at HNL;clear hfw hrt hsz hr her hL9 hP9 HLV HPV HTV hpub
 cases fw with
 | false =>
  refine wp_region_lit ?_;refine @wpList_load_known _ _ _ _ _ _ _ ?_ 27 (.tmp 4) rfl (tb) (0) rfl (.agg #[.slice lad ln lc, .slice pad pn pc]) (HLT.out w1 (Kept.refl w1.heap.size w1.heap.size w1)) ?_
  ·kernel_rfl
  simp only [Act.put, sA, sB, sC];refine @wQ _ _ _ _ _ _ _ ?_ ?_
  ·kernel_rfl
  intro K hK;go_simp;go_at_call 10
  refine (HFW.out w1 (Kept.refl w1.heap.size w1.heap.size w1)).mono ?_;rintro e w2 ⟨rfl, k2⟩;have K2 := Lib.hid k2;clear k2;refine hK _ _ ?_;clear hK K;refine @wQ _ _ _ _ _ _ _ ?_ ?_
  ·kernel_rfl
  intro K hK;go_simp;refine hK _ _ ?_;clear hK K;refine @wQ _ _ _ _ _ _ _ ?_ ?_
  ·kernel_rfl
  intro K hK;go_simp;refine hK _ _ ?_;clear hK K;refine @wpList_skip _ _ _ _ _ _ _ ?_ ?_
  ·kernel_rfl
  simp only [Act.put, sA, sB, sC];refine @wpList_skip _ _ _ _ _ _ _ ?_ ?_
  ·kernel_rfl
  simp only [Act.put, sA, sB, sC];refine @wpList_skip _ _ _ _ _ _ _ ?_ ?_
  ·kernel_rfl
  simp only [Act.put, sA, sB, sC];refine @wQ _ _ _ _ _ _ _ ?_ ?_
  ·kernel_rfl
  intro K hK;go_simp;refine hK _ _ ?_;clear hK K
  go_upto_region 2 with fail
  refine wp_region_lit ?_;refine @wQ _ _ _ _ _ _ _ ?_ ?_
  ·kernel_rfl
  intro K hK;go_simp;go_at_call 7
  refine (HAW.out _).mono ?_;rintro e w3 ⟨rfl, k3⟩;have K3 := Lib.hid (K2.out.next1 k3);clear k3;refine hK _ _ ?_;clear hK K;refine @wQ _ _ _ _ _ _ _ ?_ ?_
  ·kernel_rfl
  intro K hK;go_simp;refine hK _ _ ?_;clear hK K;go_wp2;go_ret;exact ⟨rfl, K1.out.next1 K3.out⟩
 | true =>
  have HR2 := Lib.hid (HRF.out rfl);clear HRF
  cases rt with
  | false =>
   refine wp_region_lit ?_;refine @wpList_load_known _ _ _ _ _ _ _ ?_ 27 (.tmp 4) rfl (tb) (0) rfl (.agg #[.slice lad ln lc, .slice pad pn pc]) (HLT.out w1 (Kept.refl w1.heap.size w1.heap.size w1)) ?_
   ·kernel_rfl
   simp only [Act.put, sA, sB, sC];refine @wQ _ _ _ _ _ _ _ ?_ ?_
   ·kernel_rfl
   intro K hK;go_simp;go_at_call 10
   refine (HFW.out w1 (Kept.refl w1.heap.size w1.heap.size w1)).mono ?_;rintro e w2 ⟨rfl, k2⟩;have K2 := Lib.hid k2;clear k2;refine hK _ _ ?_;clear hK K;refine @wQ _ _ _ _ _ _ _ ?_ ?_
   ·kernel_rfl
   intro K hK;go_simp;refine hK _ _ ?_;clear hK K;refine @wQ _ _ _ _ _ _ _ ?_ ?_
   ·kernel_rfl
   intro K hK;go_simp;refine hK _ _ ?_;clear hK K;refine @wpList_load_known _ _ _ _ _ _ _ ?_ 27 (.tmp 4) rfl (tb) (0) rfl (.agg #[.slice lad ln lc, .slice pad pn pc]) (HLT.out w2 K2.out) ?_
   ·kernel_rfl
   simp only [Act.put, sA, sB, sC];refine @wQ _ _ _ _ _ _ _ ?_ ?_
   ·kernel_rfl
   intro K hK;go_simp;go_at_call 15
   refine (HR2.out w2 K2.out).mono ?_;rintro e w3 ⟨rfl, k3⟩;have K3 := Lib.hid (K2.out.next1 k3);clear k3;refine hK _ _ ?_;clear hK K;refine @wQ _ _ _ _ _ _ _ ?_ ?_
   ·kernel_rfl
   intro K hK;go_simp;refine hK _ _ ?_;clear hK K;refine @wQ _ _ _ _ _ _ _ ?_ ?_
   ·kernel_rfl
   intro K hK;go_simp;refine hK _ _ ?_;clear hK K
   go_upto_region 2 with fail
   refine wp_region_lit ?_;refine @wQ _ _ _ _ _ _ _ ?_ ?_
   ·kernel_rfl
   intro K hK;go_simp;go_at_call 7
   refine (HAW.out _).mono ?_;rintro e w4 ⟨rfl, k4⟩;have K4 := Lib.hid (K3.out.next1 k4);clear k4;refine hK _ _ ?_;clear hK K;refine @wQ _ _ _ _ _ _ _ ?_ ?_
   ·kernel_rfl
   intro K hK;go_simp;refine hK _ _ ?_;clear hK K;go_wp2;go_ret;exact ⟨rfl, K1.out.next1 K4.out⟩
  | true =>
   have HA2 := Lib.hid (HAC.out rfl rfl);have HD2 := Lib.hid (HDC.out rfl rfl);have HPL2 := Lib.hid (HPL.out rfl);have HNL2 := Lib.hid (HNL.out rfl);have HNP2 := Lib.hid (HNP.out rfl);clear HAC HDC HPL HNL HNP;refine wp_region_lit ?_;refine @wpList_load_known _ _ _ _ _ _ _ ?_ 27 (.tmp 4) rfl (tb) (0) rfl (.agg #[.slice lad ln lc, .slice pad pn pc]) (HLT.out w1 (Kept.refl w1.heap.size w1.heap.size w1)) ?_
   ·kernel_rfl
   simp only [Act.put, sA, sB, sC];refine @wQ _ _ _ _ _ _ _ ?_ ?_
   ·kernel_rfl
   intro K hK;go_simp;go_at_call 10
   refine (HFW.out w1 (Kept.refl w1.heap.size w1.heap.size w1)).mono ?_;rintro e w2 ⟨rfl, k2⟩;have K2 := Lib.hid k2;clear k2;refine hK _ _ ?_;clear hK K;refine @wQ _ _ _ _ _ _ _ ?_ ?_
   ·kernel_rfl
   intro K hK;go_simp;refine hK _ _ ?_;clear hK K;refine @wQ _ _ _ _ _ _ _ ?_ ?_
   ·kernel_rfl
   intro K hK;go_simp;refine hK _ _ ?_;clear hK K;refine @wpList_load_known _ _ _ _ _ _ _ ?_ 27 (.tmp 4) rfl (tb) (0) rfl (.agg #[.slice lad ln lc, .slice pad pn pc]) (HLT.out w2 K2.out) ?_
   ·kernel_rfl
   simp only [Act.put, sA, sB, sC];refine @wQ _ _ _ _ _ _ _ ?_ ?_
   ·kernel_rfl
   intro K hK;go_simp;go_at_call 15
   refine (HR2.out w2 K2.out).mono ?_;rintro e w3 ⟨rfl, k3⟩;have K3 := Lib.hid (K2.out.next1 k3);clear k3;refine hK _ _ ?_;clear hK K;refine @wQ _ _ _ _ _ _ _ ?_ ?_
   ·kernel_rfl
   intro K hK;go_simp;refine hK _ _ ?_;clear hK K;refine @wQ _ _ _ _ _ _ _ ?_ ?_
   ·kernel_rfl
   intro K hK;go_simp;refine hK _ _ ?_;clear hK K
   go_upto_region 3 with fail
   refine wp_region_lit ?_;refine @wpList_load_known _ _ _ _ _ _ _ ?_ 27 (.tmp 4) rfl (tb) (0) rfl (.agg #[.slice lad ln lc, .slice pad pn pc]) (HLT.out w3 K3.out) ?_
   ·kernel_rfl
   simp only [Act.put, sA, sB, sC];refine @wQ _ _ _ _ _ _ _ ?_ ?_
   ·kernel_rfl
   intro K hK;go_simp;refine hK _ _ ?_;clear hK K;refine @wQ _ _ _ _ _ _ _ ?_ ?_
   ·kernel_rfl
   intro K hK;go_simp;refine hK _ _ ?_;clear hK K;refine @wQ _ _ _ _ _ _ _ ?_ ?_
   ·kernel_rfl
   intro K hK;go_simp;go_at_call 21
   refine (HKC.out w3).mono ?_;rintro e w4 ⟨kv, rfl, o4, k4⟩;obtain ⟨kad, kc, rfl⟩ := ownh_shape o4;have HKS := Lib.hid o4.hs;obtain ⟨kn, hkn⟩ : ∃ kn, kn = KS.length := ⟨_, rfl⟩;rw [← hkn] at HKS ⊢;have HA3 := Lib.hid (fun (u : World) (k : Kept w1.heap.size w1.heap.size w1 u) (kk : Kept w4.heap.size w4.heap.size w4 u) => HA2.out (.slice kad kn kc) u k (HKS.out.kept kk))
   have HD3 := Lib.hid (fun (u : World) (k : Kept w1.heap.size w1.heap.size w1 u) (kk : Kept w4.heap.size w4.heap.size w4 u) => HD2.out (.slice kad kn kc) u k (HKS.out.kept kk))
   clear o4 hkn HA2 HD2;have K4 := Lib.hid (K3.out.next1 k4);clear k4;refine hK _ _ ?_;clear hK K;refine @wQ _ _ _ _ _ _ _ ?_ ?_
   ·kernel_rfl
   intro K hK;go_simp;refine hK _ _ ?_;clear hK K
   go_upto_region 4 with fail
   refine wp_region_lit ?_;refine @wpList_load_known _ _ _ _ _ _ _ ?_ 27 (.tmp 4) rfl (tb) (0) rfl (.agg #[.slice lad ln lc, .slice pad pn pc]) (HLT.out w4 K4.out) ?_
   ·kernel_rfl
   simp only [Act.put, sA, sB, sC];refine @wQ _ _ _ _ _ _ _ ?_ ?_
   ·kernel_rfl
   intro K hK;go_simp;refine hK _ _ ?_;clear hK K;refine @wpList_load_known _ _ _ _ _ _ _ ?_ 35 (.tmp 6) rfl (lb) (0) rfl (.agg D) (HLE.out w4 K4.out) ?_
   ·kernel_rfl
   simp only [Act.put, sA, sB, sC];refine @wQ _ _ _ _ _ _ _ ?_ ?_
   ·kernel_rfl
   intro K hK;go_simp;refine hK _ _ ?_;clear hK K;refine @wQ _ _ _ _ _ _ _ ?_ ?_
   ·kernel_rfl
   intro K hK;go_simp;go_at_call 14
   refine (HA3.out w4 K4.out (Kept.refl _ _ _)).mono ?_;rintro e w5 ⟨lv5, pv5, rfl, k5, SL5, m5⟩;obtain ⟨lad5, lc5, rfl⟩ := m5.lvs.shape;obtain ⟨pad5, pc5, rfl⟩ := m5.pts.shape;obtain ⟨n5, hn5⟩ : ∃ n5, n5 = L9.length := ⟨_, rfl⟩;obtain ⟨q5, hq5⟩ : ∃ q5, q5 = P9.length := ⟨_, rfl⟩;rw [← hn5, ← hq5] at m5 ⊢;clear hn5 hq5;have K5 := Lib.hid (K4.out.next1 k5);have J5 := Lib.hid k5;clear k5;refine hK _ _ ?_;clear hK K;refine @wQ _ _ _ _ _ _ _ ?_ ?_
   ·kernel_rfl
   intro K hK;go_simp;refine hK _ _ ?_;clear hK K;refine @wQ _ _ _ _ _ _ _ ?_ ?_
   ·kernel_rfl
   intro K hK;go_simp;refine hK _ _ ?_;clear hK K;refine @wQ _ _ _ _ _ _ _ ?_ ?_
   ·kernel_rfl
   intro K hK;go_simp;refine hK _ _ ?_;clear hK K;refine @wpL_alloc _ _ _ _ _ _ _ _ ?_ 27 rfl _ (alloc_tree _) ?_
   ·kernel_rfl
   simp only [Act.put, sA, sB, sC];refine wpList_store_row rfl 27 _ _ rfl (w5.heap.size) #[.slice lad5 n5 lc5, .slice pad5 q5 pc5] rfl rfl 27 #[.slice none 0 0, .slice none 0 0] (heap_new _ _) (treeInfo) (rfl) (tree_all _ _ _ _ _ _) ?_
   simp only [Act.put];rw [World.setRow_alloc_new];refine @wQ _ _ _ _ _ _ _ ?_ ?_
   ·kernel_rfl
   intro K hK;go_simp;refine hK _ _ ?_;clear hK K;have kk6 : Kept w5.heap.size w5.heap.size w5 (w5.alloc (.cells #[.slice lad5 n5 lc5, .slice pad5 q5 pc5] 27)) := (Kept.refl _ _ _).alloc (Nat.le_refl _) _
   have K6 := Lib.hid (K5.out.next1 kk6);have J6 := Lib.hid (J5.out.next1 kk6);have M6 := Lib.hid (m5.kept kk6);have X6 := Lib.hid (heap_new w5 (.cells #[.slice lad5 n5 lc5, .slice pad5 q5 pc5] 27))
   generalize w5.alloc (.cells #[.slice lad5 n5 lc5, .slice pad5 q5 pc5] 27) = w6 at K6 J6 M6 X6 ⊢
   obtain ⟨b6, hb6⟩ : ∃ b6, b6 = w5.heap.size := ⟨_, rfl⟩;rw [← hb6] at X6
   (try rw [← hb6])
   clear hb6 m5 kk6
   go_upto_region 5 with fail
   refine wp_region_lit ?_;refine @wpList_load_known _ _ _ _ _ _ _ ?_ 27 (.tmp 4) rfl (tb) (0) rfl (.agg #[.slice lad ln lc, .slice pad pn pc]) (HLT.out w6 K6.out) ?_
   ·kernel_rfl
   simp only [Act.put, sA, sB, sC];refine @wQ _ _ _ _ _ _ _ ?_ ?_
   ·kernel_rfl
   intro K hK;go_simp;refine hK _ _ ?_;clear hK K;refine @wpList_load_known _ _ _ _ _ _ _ ?_ 35 (.tmp 6) rfl (lb) (0) rfl (.agg D) (HLE.out w6 K6.out) ?_
   ·kernel_rfl
   simp only [Act.put, sA, sB, sC];refine @wQ _ _ _ _ _ _ _ ?_ ?_
   ·kernel_rfl
   intro K hK;go_simp;refine hK _ _ ?_;clear hK K;refine @wQ _ _ _ _ _ _ _ ?_ ?_
   ·kernel_rfl
   intro K hK;go_simp;go_at_call 19
   refine (HD3.out w6 K6.out J6.out).mono ?_;rintro e w7 ⟨lv7, pv7, rfl, k7, SL7, m7⟩;obtain ⟨lad7, lc7, rfl⟩ := m7.lvs.shape;obtain ⟨pad7, pc7, rfl⟩ := m7.pts.shape;obtain ⟨n7, hn7⟩ : ∃ n7, n7 = L9.length := ⟨_, rfl⟩;obtain ⟨q7, hq7⟩ : ∃ q7, q7 = P9.length := ⟨_, rfl⟩;rw [← hn7, ← hq7] at m7 ⊢;clear hn7 hq7;have K7 := Lib.hid (K6.out.next1 k7);have N7 := Lib.hid (M6.out.kept k7);have X7 := Lib.hid ((k7.block b6 (lt_of_block X6.out) (Nat.ne_of_lt (lt_of_block X6.out))).trans X6.out);have J7 := Lib.hid k7;clear k7;refine hK _ _ ?_;clear hK K;refine @wQ _ _ _ _ _ _ _ ?_ ?_
   ·kernel_rfl
   intro K hK;go_simp;refine hK _ _ ?_;clear hK K;refine @wQ _ _ _ _ _ _ _ ?_ ?_
   ·kernel_rfl
   intro K hK;go_simp;refine hK _ _ ?_;clear hK K;refine @wQ _ _ _ _ _ _ _ ?_ ?_
   ·kernel_rfl
   intro K hK;go_simp;refine hK _ _ ?_;clear hK K;refine @wpL_alloc _ _ _ _ _ _ _ _ ?_ 27 rfl _ (alloc_tree _) ?_
   ·kernel_rfl
   simp only [Act.put, sA, sB, sC];refine wpList_store_row rfl 27 _ _ rfl (w7.heap.size) #[.slice lad7 n7 lc7, .slice pad7 q7 pc7] rfl rfl 27 #[.slice none 0 0, .slice none 0 0] (heap_new _ _) (treeInfo) (rfl) (tree_all _ _ _ _ _ _) ?_
   simp only [Act.put];rw [World.setRow_alloc_new];refine @wQ _ _ _ _ _ _ _ ?_ ?_
   ·kernel_rfl
   intro K hK;go_simp;refine hK _ _ ?_;clear hK K;have kk8 : Kept w7.heap.size w7.heap.size w7 (w7.alloc (.cells #[.slice lad7 n7 lc7, .slice pad7 q7 pc7] 27)) := (Kept.refl _ _ _).alloc (Nat.le_refl _) _
   have K8 := Lib.hid (K7.out.next1 kk8);have J8 := Lib.hid (J7.out.next1 kk8);have M8 := Lib.hid (m7.kept kk8);have Y8 := Lib.hid (heap_new w7 (.cells #[.slice lad7 n7 lc7, .slice pad7 q7 pc7] 27))
   have N8 := Lib.hid (N7.out.kept kk8);have X8 := Lib.hid ((kk8.block b6 (lt_of_block X7.out) (Nat.ne_of_lt (lt_of_block X7.out))).trans X7.out);generalize w7.alloc (.cells #[.slice lad7 n7 lc7, .slice pad7 q7 pc7] 27) = w8 at K8 J8 M8 Y8 N8 X8 ⊢
   obtain ⟨b8, hb8⟩ : ∃ b8, b8 = w7.heap.size := ⟨_, rfl⟩;rw [← hb8] at Y8
   (try rw [← hb8])
   clear hb8 m7 kk8
   go_upto_region 6 with fail
   refine wp_region_lit ?_;refine @wQ _ _ _ _ _ _ _ ?_ ?_
   ·kernel_rfl
   intro K hK;go_simp;go_at_call 7
   refine (HAW.out _).mono ?_;rintro e w9 ⟨rfl, k9⟩;have K9 := Lib.hid (K8.out.next1 k9);have M9 := Lib.hid (M8.out.kept k9);have N9 := Lib.hid (N8.out.kept k9);have X9 := Lib.hid ((k9.block b6 (lt_of_block X8.out) (Nat.ne_of_lt (lt_of_block X8.out))).trans X8.out);have Y9 := Lib.hid ((k9.block b8 (lt_of_block Y8.out) (Nat.ne_of_lt (lt_of_block Y8.out))).trans Y8.out);have HSM := Lib.hid (treesame_calls _ _ _ _ _ _ L9 P9 SL5 SL7 w9 N9.out M9.out HNL2.out HNP2.out HPL2.out);clear k9;refine hK _ _ ?_;clear hK K;refine @wQ _ _ _ _ _ _ _ ?_ ?_
   ·kernel_rfl
   intro K hK;go_simp;refine hK _ _ ?_;clear hK K;refine @wQ _ _ _ _ _ _ _ ?_ ?_
   ·kernel_rfl
   intro K hK;go_simp;refine hK _ _ ?_;clear hK K;refine @wQ _ _ _ _ _ _ _ ?_ ?_
   ·kernel_rfl
   intro K hK;go_simp;refine hK _ _ ?_;clear hK K;refine @wQ _ _ _ _ _ _ _ ?_ ?_
   ·kernel_rfl
   intro K hK;go_simp;refine hK _ _ ?_;clear hK K;refine @wQ _ _ _ _ _ _ _ ?_ ?_
   ·kernel_rfl
   intro K hK;go_simp;refine hK _ _ ?_;clear hK K;refine @wQ _ _ _ _ _ _ _ ?_ ?_
   ·kernel_rfl
   intro K hK;go_simp;refine hK _ _ ?_;clear hK K;refine @wpList_load_known _ _ _ _ _ _ _ ?_ 27 (.tmp 10) rfl (b6) (0) rfl (.agg #[.slice lad5 n5 lc5, .slice pad5 q5 pc5]) (run_loadVar_row w9 b6 27 27 _ (0, 0) _ X9.out Tryz.underlying27 rfl treeInfo) ?_
   ·kernel_rfl
   simp only [Act.put, sA, sB, sC];refine @wpList_load_known _ _ _ _ _ _ _ ?_ 27 (.tmp 12) rfl (b8) (0) rfl (.agg #[.slice lad7 n7 lc7, .slice pad7 q7 pc7]) (run_loadVar_row w9 b8 27 27 _ (0, 0) _ Y9.out Tryz.underlying27 rfl treeInfo) ?_
   ·kernel_rfl
   simp only [Act.put, sA, sB, sC];refine @wQ _ _ _ _ _ _ _ ?_ ?_
   ·kernel_rfl
   intro K hK;go_simp;go_at_call 24
   refine (HSM.out).mono ?_;rintro e w10 ⟨rfl, k10⟩;have K10 := Lib.hid (K9.out.next1 k10);clear k10;refine hK _ _ ?_;clear hK K;refine @wQ _ _ _ _ _ _ _ ?_ ?_
   ·kernel_rfl
   intro K hK;go_simp;refine hK _ _ ?_;clear hK K;refine @wQ _ _ _ _ _ _ _ ?_ ?_
   ·kernel_rfl
   intro K hK;go_simp;refine hK _ _ ?_;clear hK K;go_wp2;go_ret;exact ⟨rfl, K1.out.next1 K10.out⟩

end Go.Proofs.YtaobiofngnfdiaaGreatDoor
