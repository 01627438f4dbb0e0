/-
 TreeGath; TreeGather; TreeRefRes; TreeGathers; TreeResolve; TreeAsksMore: several texts in one.
-/
import Derived.Test.YtilpehpiikdkbaaGreatDoorHF
import Derived.Test.YtilpehpiikdkbaaGreatDoorTreeNames
import Derived.Test.YtilpehpiikdkbaaGreatDoorHK

namespace Go.Proofs.YtilpehpiikdkbaaGreatDoor
open Go.RowKit Go.Lib

/-- The closure's memory since w0: the list holds M. -/
structure Gs (w0 : World) (B tb lb gb nb : Nat) (V : Array Value) (tg : TypeId) (n : Nat) (M : List Int) (w : World) : Prop where
 kp : Kept B lb w0 w
 base : B ≤ w.heap.size
 tree : w.heap[tb]? = some (.cells V 27 (0, 0))
 gat : w.heap[gb]? = some (.cells #[.func (.func 50) #[] #[.pointer (some ⟨tb, 0, none⟩), .pointer (some ⟨lb, 0, none⟩), .pointer (some ⟨gb, 0, none⟩), .pointer (some ⟨nb, 0, none⟩)]] tg (0, 0))
 num : w.heap[nb]? = some (.cells #[.int .i64 (n : Int)] 3 (0, 0))
 lst : ∃ v, w.heap[lb]? = some (.cells #[v] 35 (0, 0)) ∧ Ints w B v M
 low : tb < B ∧ lb < B ∧ gb < B ∧ nb < B ∧ tb ≠ lb ∧ gb ≠ lb ∧ nb ≠ lb
section
variable {w0 w w1 : World} {B tb lb gb nb : Nat} {V : Array Value} {tg : TypeId} {n : Nat} {M : List Int}
theorem Gs.kept (h : Gs w0 B tb lb gb nb V tg n M w) (k : Kept w.heap.size w.heap.size w w1) : Gs w0 B tb lb gb nb V tg n M w1 := by
 obtain ⟨v, h1, h2⟩ := h.lst
 have up : ∀ (b : Nat) (o : Obj), w.heap[b]? = some o → w1.heap[b]? = some o := fun b o e => (k.block b (lt_of_block e) (Nat.ne_of_lt (lt_of_block e))).trans e
 exact ⟨h.kp.trans (k.mono h.base (fun i hi _ => Nat.ne_of_lt (Nat.lt_of_lt_of_le hi h.base))), Nat.le_trans h.base k.size, up _ _ h.tree, up _ _ h.gat, up _ _ h.num, ⟨v, up _ _ h1, h2.kept k⟩, h.low⟩
theorem Gs.drew (h : Gs w0 B tb lb gb nb V tg n M w) : Gs w0 B tb lb gb nb V tg n M w.drew := h.kept (Kept.refl _ _ _).drew
/-- A number put behind the list. -/
theorem Gs.add (h : Gs w0 B tb lb gb nb V tg n M w) (z : Int) (hM : M.length < 90000) :
  ∃ ad m c ad' c' w9, w.heap[lb]? = some (.cells #[.slice ad m c] 35 (0, 0)) ∧ (Builtin.append_ #[35, 35] 35 #[.slice ad m c, .slice (some ⟨w.heap.size, 0, none⟩) 1 1]).run Tryz.prog (w.alloc (.cells #[.int .i64 z] 3)) = .ok (.slice ad' (m + 1) c') w9 ∧
   w9.heap[lb]? = some (.cells #[.slice ad m c] 35 (0, 0)) ∧ Gs w0 B tb lb gb nb V tg n (M ++ [z]) (w9.setCell ⟨lb, 0, none⟩ (.slice ad' (m + 1) c')) := by
 obtain ⟨v, h1, h2⟩ := h.lst
 obtain ⟨l1, l2, l3, l4, d1, d2, d3⟩ := h.low
 have ia := h2.alloc (.cells #[.int .i64 z] 3)
 have ka := h.kp.alloc h.base (.cells #[.int .i64 z] 3)
 have hsz : B ≤ (w.alloc (.cells #[.int .i64 z] 3)).heap.size := by have := h.base; simp; omega
 have up : ∀ (b : Nat) (o : Obj), w.heap[b]? = some o → (w.alloc (.cells #[.int .i64 z] 3)).heap[b]? = some o := fun b o e => (heap_alloc_old w _ (lt_of_block e)).trans e
 obtain ⟨v9, w9, e9, i9, g9⟩ := append_intR _ B v M z ia w.heap.size 1 (one_cellT (heap_new w (.cells #[.int .i64 z] 3))) (by omega) hsz
 have hbo : ∀ q, v.ownBlock = some q → B ≤ q := fun q e => (World.ownsRow.lt ia q e).1
 have k9 := ka.grown g9 hsz hbo
 have up9 : ∀ (b : Nat) (o : Obj), b < B → w.heap[b]? = some o → w9.heap[b]? = some o := fun b o hb e => (g9.block b (lt_of_block (up b o e)) (fun q => by have := hbo b q.symm; omega)).trans (up b o e)
 obtain ⟨ad, c, rfl⟩ := (ints_nums h2).shape
 obtain ⟨ad', c', rfl⟩ := (ints_nums i9).shape
 have hl9 := up9 lb _ l2 h1
 have up10 : ∀ (b : Nat) (o : Obj), b < B → b ≠ lb → w.heap[b]? = some o → (w9.setCell ⟨lb, 0, none⟩ (.slice ad' (M ++ [z]).length c')).heap[b]? = some o := fun b o hb hn e => (setCell_other w9 lb 0 _ b hn).trans (up9 b o hb e)
 have hs9 : (w9.setCell ⟨lb, 0, none⟩ (.slice ad' (M ++ [z]).length c')).heap[lb]? = some (.cells #[.slice ad' (M ++ [z]).length c'] 35 (0, 0)) := by
  have := cells_set (cs := [.slice ad M.length c]) hl9 0 (.slice ad' (M ++ [z]).length c')
  simpa using this
 have i10 : Ints (w9.setCell ⟨lb, 0, none⟩ (.slice ad' (M ++ [z]).length c')) B (.slice ad' (M ++ [z]).length c') (M ++ [z]) := World.ownsRow.kept i9 (grown_set w9 lb 0 _) (.inr (fun e => by have := (World.ownsRow.lt i9 lb e).1; omega))
 refine ⟨ad, M.length, c, ad', c', w9, h1, by have := e9; rwa [List.length_append] at this, hl9, ?_⟩
 rw [List.length_append, List.length_singleton] at hs9 i10 up10
 exact ⟨k9.set (.inl rfl) 0 _, by simpa [World.setCell] using Nat.le_trans hsz g9.size, up10 tb _ l1 d1 h.tree, up10 gb _ l3 d2 h.gat, up10 nb _ l4 d3 h.num, ⟨_, hs9, i10⟩, h.low⟩
end

end Go.Proofs.YtilpehpiikdkbaaGreatDoor

namespace Go.Proofs.YtilpehpiikdkbaaGreatDoor
open Go.RowKit Go.Lib

set_option maxRecDepth 100000 in
theorem intsInfo8 : (Tryz.prog.info? 35).map (·.size) = some 1 := by kernel_rfl
set_option maxRecDepth 100000 in
set_option maxHeartbeats 6400000 in
theorem gather_leaf (L : List Lf) (P : List Pr) (hF : Tt.Fine L P) (a : Nat) (ha : a < L.length) (w0 : World) (B tb lb gb nb : Nat) (lad pad : Option Addr) (lc pc pn : Nat) (tg : TypeId) (M : List Int) (w : World)
  (hLv : ∀ M x, Gs w0 B tb lb gb nb #[.slice lad L.length lc, .slice pad pn pc] tg L.length M x → Lvs x (.slice lad L.length lc) L) (hM : M.length ≤ 80000) (hG : Gs w0 B tb lb gb nb #[.slice lad L.length lc, .slice pad pn pc] tg L.length M w) :
  Calls Tryz.prog 50 #[.int .i64 ((Bo.root a 1 : Nat) : Int), .pointer (some ⟨tb, 0, none⟩), .pointer (some ⟨lb, 0, none⟩), .pointer (some ⟨gb, 0, none⟩), .pointer (some ⟨nb, 0, none⟩)] w fun e w' => e = .returned (.tuple #[]) ∧ Gs w0 B tb lb gb nb #[.slice lad L.length lc, .slice pad pn pc] tg L.length (M ++ if L[a].name = 0 then [] else [((Bo.root a 1 : Nat) : Int)]) w' := by
 have h64 := hF.n64
 obtain ⟨lad', lg, lo, lc', hsl, hlc, _⟩ := hLv M w hG
 injection hsl with hs1 _ hs2
 subst hs1 hs2
 obtain ⟨rfl, hg, hok, hr⟩ := hlc a ha
 have HIB := Lib.hid (isblank_calls L[a])
 have HINF := Lib.hid (show (Tryz.prog.info? 48).map (·.size) = some L[a].cells.length by have := leafInfo (Lf.size hok); simpa using this)
 obtain ⟨nm, hnm⟩ : ∃ nm, nm = L[a].name := ⟨_, rfl⟩
 rw [← hnm] at HIB ⊢
 obtain ⟨ct, hct⟩ : ∃ ct, ct = L[a].cells := ⟨_, rfl⟩
 rw [← hct] at hr HINF HIB
 obtain ⟨ln, hln⟩ : ∃ ln, ln = L.length := ⟨_, rfl⟩
 rw [← hln] at hG ⊢
 have hal : (a : Int) < (ln : Int) := by omega
 have ha0 : ¬ (a : Int) < 0 := by omega
 obtain ⟨x, hx⟩ : ∃ x : Int, x = ((Bo.root a 1 : Nat) : Int) := ⟨_, rfl⟩
 have hx2 : x = 2 * (a : Int) := by rw [hx, Bo.root_one]; omega
 rw [← hx]
 have hxm : x.tmod 2 = 0 := by rw [hx2, Int.tmod_eq_emod_of_nonneg (by omega)]; omega
 have HQU := Lib.hid (show IntKind.i64.wrap (x.tdiv 2) = (a : Int) by rw [show x.tdiv 2 = (a : Int) by rw [hx2, Int.tdiv_eq_ediv_of_nonneg (by omega)]; omega, wrap_small _ (by omega) (by omega)])
 have HIL := Lib.hid (fun u => isleaf_yes x (by rw [hxm]; rfl) hxm u)
 have HLD := Lib.hid (run_loadVar_mid w lg (lo + a * 97) 48 ct _ hr Tryz.underlying48 rfl HINF.out)
 have HM := Lib.hid hM
 have HG := Lib.hid hG
 have t0 := two_cell0 hG.tree
 obtain ⟨RR, hRR⟩ : ∃ RR, RR = M ++ (if nm = 0 then [] else [x]) := ⟨_, rfl⟩
 rw [← hRR]
 have HRR := Lib.hid hRR
 clear hLv hM hG hg hok hr hlc hct hln hx hx2 hxm hRR h64 hF hnm ha
 by_cases hz : nm = 0
 ·have HRB := Lib.hid (show RR = M by rw [HRR.out, if_pos hz, List.append_nil])
  have hz0 : (nm == 0) = true := by rw [beq_iff_eq]; exact hz
  rw [hz0] at HIB
  clear hz hz0 HRR
  go_enter Tryz.func50, Tryz.ntmps50
  go_upto_region 0 with fail
  refine wp_region_lit ?_
  refine @BigFrame.wpList_want _ _ _ _ _ _ _ ?hw63001 ?_
  case hw63001 => kernel_rfl
  intro K hK
  go_simp
  refine hK _ _ ?_
  clear hK K
  refine @BigFrame.wpList_want _ _ _ _ _ _ _ ?hw63002 ?_
  case hw63002 => kernel_rfl
  intro K hK
  go_simp
  go_at_call 51
  refine (HIL.out _).mono ?_
  rintro e wx ⟨rfl, hwx⟩
  subst wx
  refine hK _ _ ?_
  clear hK K
  go_upto_region 1 with fail
  refine wp_region_lit ?_
  refine @BigFrame.wpList_want _ _ _ _ _ _ _ ?hw63003 ?_
  case hw63003 => kernel_rfl
  intro K hK
  go_simp
  refine hK _ _ ?_
  clear hK K
  refine @BigFrame.wpList_want _ _ _ _ _ _ _ ?hw63004 ?_
  case hw63004 => kernel_rfl
  intro K hK
  go_simp
  refine hK _ _ ?_
  clear hK K
  refine @BigFrame.wpList_want _ _ _ _ _ _ _ ?hw63005 ?_
  case hw63005 => kernel_rfl
  intro K hK
  go_simp
  refine hK _ _ ?_
  clear hK K
  refine @BigFrame.wpList_want _ _ _ _ _ _ _ ?hw63006 ?_
  case hw63006 => kernel_rfl
  intro K hK
  go_simp
  refine hK _ _ ?_
  clear hK K
  rw [HQU.out]
  refine @BigFrame.wpList_want _ _ _ _ _ _ _ ?hw63007 ?_
  case hw63007 => kernel_rfl
  intro K hK
  go_simp
  refine hK _ _ ?_
  clear hK K
  refine @wpList_load_known _ _ _ _ _ _ _ ?hw63008 48 (.tmp 14) rfl (lg) (lo + a * 97) rfl (.agg ct.toArray) (HLD.out) ?_
  case hw63008 => kernel_rfl
  simp only [Act.put, List.setIfInBounds_toArray, List.set_cons_zero, List.set_cons_succ]
  refine @BigFrame.wpList_want _ _ _ _ _ _ _ ?hw63009 ?_
  case hw63009 => kernel_rfl
  intro K hK
  go_simp
  go_at_call 40
  refine (HIB.out _).mono ?_
  rintro e w2 ⟨rfl, k2⟩
  have G2 := Lib.hid (HG.out.kept k2)
  clear k2
  refine hK _ _ ?_
  clear hK K
  refine @BigFrame.wpList_want _ _ _ _ _ _ _ ?hw63010 ?_
  case hw63010 => kernel_rfl
  intro K hK
  go_simp
  refine hK _ _ ?_
  clear hK K
  clear t0
  go_wp2
  refine bodyPost_ret (results_none rfl _ _ _) rfl ?_
  exact ⟨rfl, by rw [HRB.out]; exact G2.out⟩
 ·have HRB := Lib.hid (show RR = M ++ [x] by rw [HRR.out, if_neg hz])
  have hz0 : (nm == 0) = false := by rw [beq_eq_false_iff_ne]; exact hz
  rw [hz0] at HIB
  clear hz hz0 HRR
  go_enter Tryz.func50, Tryz.ntmps50
  go_upto_region 0 with fail
  refine wp_region_lit ?_
  refine @BigFrame.wpList_want _ _ _ _ _ _ _ ?hw63001 ?_
  case hw63001 => kernel_rfl
  intro K hK
  go_simp
  refine hK _ _ ?_
  clear hK K
  refine @BigFrame.wpList_want _ _ _ _ _ _ _ ?hw63002 ?_
  case hw63002 => kernel_rfl
  intro K hK
  go_simp
  go_at_call 51
  refine (HIL.out _).mono ?_
  rintro e wx ⟨rfl, hwx⟩
  subst wx
  refine hK _ _ ?_
  clear hK K
  go_upto_region 1 with fail
  refine wp_region_lit ?_
  refine @BigFrame.wpList_want _ _ _ _ _ _ _ ?hw63003 ?_
  case hw63003 => kernel_rfl
  intro K hK
  go_simp
  refine hK _ _ ?_
  clear hK K
  refine @BigFrame.wpList_want _ _ _ _ _ _ _ ?hw63004 ?_
  case hw63004 => kernel_rfl
  intro K hK
  go_simp
  refine hK _ _ ?_
  clear hK K
  refine @BigFrame.wpList_want _ _ _ _ _ _ _ ?hw63005 ?_
  case hw63005 => kernel_rfl
  intro K hK
  go_simp
  refine hK _ _ ?_
  clear hK K
  refine @BigFrame.wpList_want _ _ _ _ _ _ _ ?hw63006 ?_
  case hw63006 => kernel_rfl
  intro K hK
  go_simp
  refine hK _ _ ?_
  clear hK K
  rw [HQU.out]
  refine @BigFrame.wpList_want _ _ _ _ _ _ _ ?hw63007 ?_
  case hw63007 => kernel_rfl
  intro K hK
  go_simp
  refine hK _ _ ?_
  clear hK K
  refine @wpList_load_known _ _ _ _ _ _ _ ?hw63008 48 (.tmp 14) rfl (lg) (lo + a * 97) rfl (.agg ct.toArray) (HLD.out) ?_
  case hw63008 => kernel_rfl
  simp only [Act.put, List.setIfInBounds_toArray, List.set_cons_zero, List.set_cons_succ]
  refine @BigFrame.wpList_want _ _ _ _ _ _ _ ?hw63009 ?_
  case hw63009 => kernel_rfl
  intro K hK
  go_simp
  go_at_call 40
  refine (HIB.out _).mono ?_
  rintro e w2 ⟨rfl, k2⟩
  have G2 := Lib.hid (HG.out.kept k2)
  clear k2
  refine hK _ _ ?_
  clear hK K
  refine @BigFrame.wpList_want _ _ _ _ _ _ _ ?hw63010 ?_
  case hw63010 => kernel_rfl
  intro K hK
  go_simp
  refine hK _ _ ?_
  clear hK K
  clear t0
  obtain ⟨ad, m, c, adn, cn, w9, h9, e9, l9, g9⟩ := G2.out.add x (by have := HM.out; omega)
  have c0 : w2.cell? ⟨lb, 0, none⟩ = some (.slice ad m c) := one_cellT h9
  have L9 := Lib.hid l9
  have G9 := Lib.hid g9
  have E9 := Lib.hid e9
  clear h9 l9 g9 e9
  go_upto_region 2 with fail
  refine wp_region_lit ?_
  refine @wpList_load_known _ _ _ _ _ _ _ ?hw63011 35 (.tmp 2) rfl (lb) (0) rfl (.slice ad m c) (load_ints c0) ?_
  case hw63011 => kernel_rfl
  simp only [Act.put, List.setIfInBounds_toArray, List.set_cons_zero, List.set_cons_succ]
  refine @BigFrame.wpList_want _ _ _ _ _ _ _ ?hw63012 ?_
  case hw63012 => kernel_rfl
  intro K hK
  go_simp
  refine hK _ _ ?_
  clear hK K
  refine @BigFrame.wpList_want _ _ _ _ _ _ _ ?hw63013 ?_
  case hw63013 => kernel_rfl
  intro K hK
  go_simp
  refine hK _ _ ?_
  clear hK K
  refine wpList_append_known rfl (.tmp 18) (.tmp 20) 35 35 35 rfl rfl (.slice ad m c) (.slice (some ⟨w2.heap.size, 0, none⟩) 1 1) rfl rfl E9.out ?_
  simp only [Act.put, List.setIfInBounds_toArray, List.set_cons_zero, List.set_cons_succ]
  refine @wpL_store_part _ _ _ _ _ _ _ ?hw63900 35 _ _ rfl lb 0 [.slice ad m c] 35 (.slice adn (m + 1) cn) rfl rfl L9.out (Nat.zero_lt_succ _) rfl intsInfo8 ?_
  case hw63900 => kernel_rfl
  simp only [Act.put]
  clear c0
  go_wp2
  refine bodyPost_ret (results_none rfl _ _ _) rfl ?_
  exact ⟨rfl, by rw [HRB.out]; exact G9.out⟩

end Go.Proofs.YtilpehpiikdkbaaGreatDoor

namespace Go.Proofs.YtilpehpiikdkbaaGreatDoor
open Go.RowKit Go.Lib

theorem ints_more {w : World} {b b' : Nat} {v : Value} {l : List Int} (h : Ints w b v l) (hb : b' ≤ b) : Ints w b' v l := owns_lower h hb
theorem ints_none (w : World) (b : Nat) : Ints w b (.slice none 0 0) [] := World.ownsRow_nil _ _ _ _
set_option maxRecDepth 100000 in
set_option maxHeartbeats 6400000 in
theorem refresolve_calls (L : List Lf) (P : List Pr) (hF : Tt.Fine L P) (n : Nat) (hn : n = L.length) (hn1 : 1 ≤ n) : ∀ (k a m : Nat) (p b : Int), m ≤ k → Bo.Seg n a m p b → ∀ (lv pv : Value) (w : World), Lvs w lv L → Pts w pv P →
  Calls Tryz.prog 25 #[.agg #[lv, pv], .int .i64 ((Bo.root a m : Nat) : Int)] w fun e w' => ∃ v, e = .returned v ∧ Ints w' w.heap.size v (Tt.resSeg L P k a m) ∧ Kept w.heap.size w.heap.size w w' := by
 intro k
 induction k with
 | zero =>
  intro a m p b h1 h2
  have := (h2.size hn1).1
  omega
 | succ k ih =>
  intro a m p b hmk hseg lv pv w hL hP
  obtain ⟨hm1, ham⟩ := hseg.size hn1
  have h64 : n ≤ 64 := by rw [hn]; exact hF.n64
  obtain ⟨lad, lg, lo, lc, rfl, hlc, hlcc⟩ := hL
  have hP0 := hP
  obtain ⟨pad, pg, po, pc, rfl, hpc, _⟩ := hP
  obtain ⟨ln, hln⟩ : ∃ ln, ln = L.length := ⟨_, rfl⟩
  obtain ⟨pn, hpn⟩ : ∃ pn, pn = P.length := ⟨_, rfl⟩
  have hL0 : Lvs w (.slice lad L.length lc) L := ⟨lad, lg, lo, lc, rfl, hlc, hlcc⟩
  by_cases h1 : m = 1
  ·subst h1
   have ha : a < L.length := by omega
   obtain ⟨rfl, hg, hok, hr⟩ := hlc a ha
   have hget : L.getD a Lf.zero = L[a] := by rw [List.getD_eq_getElem?_getD, List.getElem?_eq_getElem ha]; rfl
   have hres : Tt.resSeg L P (k + 1) a 1 = if L[a].name = 0 then [] else [((Bo.root a 1 : Nat) : Int)] := by rw [Tt.resSeg, if_pos rfl, hget]
   rw [hres]
   have hc := hr 0 (.int .i64 L[a].name) (by have := L[a].at_name; simpa using this)
   rw [Nat.add_zero] at hc
   obtain ⟨nm, hnm⟩ : ∃ nm, nm = L[a].name := ⟨_, rfl⟩
   rw [← hnm] at hc ⊢
   have hal : (a : Int) < (ln : Int) := by omega
   have ha0 : ¬ (a : Int) < 0 := by omega
   obtain ⟨x, hx⟩ : ∃ x : Int, x = ((Bo.root a 1 : Nat) : Int) := ⟨_, rfl⟩
   have hx2 : x = 2 * (a : Int) := by rw [hx, Bo.root_one]; omega
   rw [← hx]
   have HRM := Lib.hid (show x.tmod 2 = 0 by rw [hx2, Int.tmod_eq_emod_of_nonneg (by omega)]; omega)
   have HQU := Lib.hid (show IntKind.i64.wrap (x.tdiv 2) = (a : Int) by rw [show x.tdiv 2 = (a : Int) by rw [hx2, Int.tdiv_eq_ediv_of_nonneg (by omega)]; omega, wrap_small _ (by omega) (by omega)])
   have HWR := Lib.hid (show IntKind.i64.wrap (x.tmod 2) = 0 by rw [show x.tmod 2 = 0 by rw [hx2, Int.tmod_eq_emod_of_nonneg (by omega)]; omega]; rfl)
   have HC := Lib.hid (fun (u : World) (kk : Kept w.heap.size w.heap.size w u) => (kk.cell (p := ⟨lg, lo + a * 97, none⟩) hg (Nat.ne_of_lt hg)).trans hc)
   rw [← hln, ← hpn]
   clear ih hmk hseg hm1 ham hlc hL0 hP0 hpc hget hres hok hc hr hx hx2 hg hln hpn ha h64 hn hn1 hF hlcc hnm
   obtain ⟨RR, hRR⟩ : ∃ RR : List Int, RR = (if nm = 0 then [] else [x]) := ⟨_, rfl⟩
   rw [← hRR]
   have HRR := Lib.hid hRR
   clear hRR
   by_cases hz : nm = 0
   ·have HRB := Lib.hid (show RR = [] by rw [HRR.out, if_pos hz])
    clear HRR
    subst hz
    have k1 := (Kept.refl w.heap.size w.heap.size w).alloc (Nat.le_refl _) (.cells #[.slice (some ⟨lg, lo, none⟩) ln lc, .slice pad pn pc] 27)
    have t1 := heap_new w (.cells #[.slice (some ⟨lg, lo, none⟩) ln lc, .slice pad pn pc] 27)
    go_enter Tryz.func25, Tryz.ntmps25
    go_upto_region 1 with fail
    generalize w.alloc (.cells #[.slice (some ⟨lg, lo, none⟩) ln lc, .slice pad pn pc] 27) = w1 at k1 t1 ⊢
    obtain ⟨tb, htb⟩ : ∃ tb, tb = w.heap.size := ⟨_, rfl⟩
    have HTB := Lib.hid (show w.heap.size ≤ tb by omega)
    rw [← htb] at t1
    (try rw [← htb])
    have K1 := Lib.hid k1
    have T1 := Lib.hid t1
    have t0 := two_cell0 t1
    clear k1 t1 htb
    refine wp_region_lit ?_
    refine @BigFrame.wpList_want _ _ _ _ _ _ _ ?hw62001 ?_
    case hw62001 => kernel_rfl
    intro K hK
    go_simp
    refine hK _ _ ?_
    clear hK K
    go_upto_region 2 with fail
    refine wp_region_lit ?_
    refine @BigFrame.wpList_want _ _ _ _ _ _ _ ?hw62002 ?_
    case hw62002 => kernel_rfl
    intro K hK
    go_simp
    refine hK _ _ ?_
    clear hK K
    refine @BigFrame.wpList_want _ _ _ _ _ _ _ ?hw62003 ?_
    case hw62003 => kernel_rfl
    intro K hK
    go_simp
    refine hK _ _ ?_
    clear hK K
    refine @BigFrame.wpList_want _ _ _ _ _ _ _ ?hw62004 ?_
    case hw62004 => kernel_rfl
    intro K hK
    go_simp
    refine hK _ _ ?_
    clear hK K
    refine @BigFrame.wpList_want _ _ _ _ _ _ _ ?hw62005 ?_
    case hw62005 => kernel_rfl
    intro K hK
    go_simp
    refine hK _ _ ?_
    clear hK K
    clear t0
    go_upto_region 3 with fail
    refine wp_region_lit ?_
    refine @BigFrame.wpList_want _ _ _ _ _ _ _ ?hw62006 ?_
    case hw62006 => kernel_rfl
    intro K hK
    go_simp
    refine hK _ _ ?_
    clear hK K
    refine @BigFrame.wpList_want _ _ _ _ _ _ _ ?hw62007 ?_
    case hw62007 => kernel_rfl
    intro K hK
    go_simp
    refine hK _ _ ?_
    clear hK K
    (try rw [HWR.out])
    (try rw [HRM.out])
    refine @BigFrame.wpList_want _ _ _ _ _ _ _ ?hw62008 ?_
    case hw62008 => kernel_rfl
    intro K hK
    go_simp
    refine hK _ _ ?_
    clear hK K
    have t0 := two_cell0 T1.out
    have c0 := HC.out _ K1.out
    go_upto_region 4 with fail
    refine wp_region_lit ?_
    refine @BigFrame.wpList_want _ _ _ _ _ _ _ ?hw62009 ?_
    case hw62009 => kernel_rfl
    intro K hK
    go_simp
    refine hK _ _ ?_
    clear hK K
    refine @BigFrame.wpList_want _ _ _ _ _ _ _ ?hw62010 ?_
    case hw62010 => kernel_rfl
    intro K hK
    go_simp
    refine hK _ _ ?_
    clear hK K
    refine @BigFrame.wpList_want _ _ _ _ _ _ _ ?hw62011 ?_
    case hw62011 => kernel_rfl
    intro K hK
    go_simp
    refine hK _ _ ?_
    clear hK K
    refine @BigFrame.wpList_want _ _ _ _ _ _ _ ?hw62012 ?_
    case hw62012 => kernel_rfl
    intro K hK
    go_simp
    refine hK _ _ ?_
    clear hK K
    rw [HQU.out]
    refine @BigFrame.wpList_want _ _ _ _ _ _ _ ?hw62013 ?_
    case hw62013 => kernel_rfl
    intro K hK
    go_simp
    refine hK _ _ ?_
    clear hK K
    refine @BigFrame.wpList_want _ _ _ _ _ _ _ ?hw62014 ?_
    case hw62014 => kernel_rfl
    intro K hK
    go_simp
    refine hK _ _ ?_
    clear hK K
    refine @wpList_load_known _ _ _ _ _ _ _ ?hw62015 3 (.tmp 20) rfl (lg) (lo + a * 97) rfl (.int .i64 0) (load_int c0) ?_
    case hw62015 => kernel_rfl
    simp only [Act.put, List.setIfInBounds_toArray, List.set_cons_zero, List.set_cons_succ]
    refine @BigFrame.wpList_want _ _ _ _ _ _ _ ?hw62016 ?_
    case hw62016 => kernel_rfl
    intro K hK
    go_simp
    refine hK _ _ ?_
    clear hK K
    clear t0 c0
    go_upto_region 6 with fail
    refine wp_region_lit ?_
    refine @BigFrame.wpList_want _ _ _ _ _ _ _ ?hw62017 ?_
    case hw62017 => kernel_rfl
    intro K hK
    go_simp
    refine hK _ _ ?_
    clear hK K
    refine @BigFrame.wpList_want _ _ _ _ _ _ _ ?hw62018 ?_
    case hw62018 => kernel_rfl
    intro K hK
    go_simp
    refine hK _ _ ?_
    clear hK K
    go_wp2
    go_ret
    exact ⟨_, rfl, by rw [HRB.out]; exact ints_none _ _, K1.out⟩
   ·have hq : (nm != 0) = true := by rw [bne_iff_ne]; exact hz
    have k1 := (Kept.refl w.heap.size w.heap.size w).alloc (Nat.le_refl _) (.cells #[.slice (some ⟨lg, lo, none⟩) ln lc, .slice pad pn pc] 27)
    have t1 := heap_new w (.cells #[.slice (some ⟨lg, lo, none⟩) ln lc, .slice pad pn pc] 27)
    go_enter Tryz.func25, Tryz.ntmps25
    go_upto_region 1 with fail
    generalize w.alloc (.cells #[.slice (some ⟨lg, lo, none⟩) ln lc, .slice pad pn pc] 27) = w1 at k1 t1 ⊢
    obtain ⟨tb, htb⟩ : ∃ tb, tb = w.heap.size := ⟨_, rfl⟩
    have HTB := Lib.hid (show w.heap.size ≤ tb by omega)
    rw [← htb] at t1
    (try rw [← htb])
    have K1 := Lib.hid k1
    have T1 := Lib.hid t1
    have t0 := two_cell0 t1
    clear k1 t1 htb
    refine wp_region_lit ?_
    refine @BigFrame.wpList_want _ _ _ _ _ _ _ ?hw62001 ?_
    case hw62001 => kernel_rfl
    intro K hK
    go_simp
    refine hK _ _ ?_
    clear hK K
    go_upto_region 2 with fail
    refine wp_region_lit ?_
    refine @BigFrame.wpList_want _ _ _ _ _ _ _ ?hw62002 ?_
    case hw62002 => kernel_rfl
    intro K hK
    go_simp
    refine hK _ _ ?_
    clear hK K
    refine @BigFrame.wpList_want _ _ _ _ _ _ _ ?hw62003 ?_
    case hw62003 => kernel_rfl
    intro K hK
    go_simp
    refine hK _ _ ?_
    clear hK K
    refine @BigFrame.wpList_want _ _ _ _ _ _ _ ?hw62004 ?_
    case hw62004 => kernel_rfl
    intro K hK
    go_simp
    refine hK _ _ ?_
    clear hK K
    refine @BigFrame.wpList_want _ _ _ _ _ _ _ ?hw62005 ?_
    case hw62005 => kernel_rfl
    intro K hK
    go_simp
    refine hK _ _ ?_
    clear hK K
    clear t0
    go_upto_region 3 with fail
    refine wp_region_lit ?_
    refine @BigFrame.wpList_want _ _ _ _ _ _ _ ?hw62006 ?_
    case hw62006 => kernel_rfl
    intro K hK
    go_simp
    refine hK _ _ ?_
    clear hK K
    refine @BigFrame.wpList_want _ _ _ _ _ _ _ ?hw62007 ?_
    case hw62007 => kernel_rfl
    intro K hK
    go_simp
    refine hK _ _ ?_
    clear hK K
    (try rw [HWR.out])
    (try rw [HRM.out])
    refine @BigFrame.wpList_want _ _ _ _ _ _ _ ?hw62008 ?_
    case hw62008 => kernel_rfl
    intro K hK
    go_simp
    refine hK _ _ ?_
    clear hK K
    have t0 := two_cell0 T1.out
    have c0 := HC.out _ K1.out
    go_upto_region 4 with fail
    refine wp_region_lit ?_
    refine @BigFrame.wpList_want _ _ _ _ _ _ _ ?hw62019 ?_
    case hw62019 => kernel_rfl
    intro K hK
    go_simp
    refine hK _ _ ?_
    clear hK K
    refine @BigFrame.wpList_want _ _ _ _ _ _ _ ?hw62020 ?_
    case hw62020 => kernel_rfl
    intro K hK
    go_simp
    refine hK _ _ ?_
    clear hK K
    refine @BigFrame.wpList_want _ _ _ _ _ _ _ ?hw62021 ?_
    case hw62021 => kernel_rfl
    intro K hK
    go_simp
    refine hK _ _ ?_
    clear hK K
    refine @BigFrame.wpList_want _ _ _ _ _ _ _ ?hw62022 ?_
    case hw62022 => kernel_rfl
    intro K hK
    go_simp
    refine hK _ _ ?_
    clear hK K
    rw [HQU.out]
    refine @BigFrame.wpList_want _ _ _ _ _ _ _ ?hw62023 ?_
    case hw62023 => kernel_rfl
    intro K hK
    go_simp
    refine hK _ _ ?_
    clear hK K
    refine @BigFrame.wpList_want _ _ _ _ _ _ _ ?hw62024 ?_
    case hw62024 => kernel_rfl
    intro K hK
    go_simp
    refine hK _ _ ?_
    clear hK K
    refine @wpList_load_known _ _ _ _ _ _ _ ?hw62025 3 (.tmp 20) rfl (lg) (lo + a * 97) rfl (.int .i64 nm) (load_int c0) ?_
    case hw62025 => kernel_rfl
    simp only [Act.put, List.setIfInBounds_toArray, List.set_cons_zero, List.set_cons_succ]
    refine @BigFrame.wpList_want _ _ _ _ _ _ _ ?hw62026 ?_
    case hw62026 => kernel_rfl
    intro K hK
    go_simp
    refine hK _ _ ?_
    clear hK K
    clear t0 c0 hq
    have HRB := Lib.hid (show RR = [x] by rw [HRR.out, if_neg hz])
    clear hz
    have ib7 := ints_none (w1.alloc (.cells #[.int .i64 x] 3)) (tb + 1)
    have kb6 := K1.out.alloc K1.out.size (.cells #[.int .i64 x] 3)
    have kb7 : tb + 1 ≤ (w1.alloc (.cells #[.int .i64 x] 3)).heap.size := by have := lt_of_block T1.out; simp; omega
    obtain ⟨v7, w7, e7, i7, g7⟩ := append_intR _ (tb + 1) (.slice none 0 0) ([]) x ib7 w1.heap.size 1 (one_cellT (heap_new w1 (.cells #[.int .i64 x] 3))) (by decide) kb7
    have K7 := Lib.hid (kb6.grown g7 kb6.size (fun k e => nomatch e))
    obtain ⟨vad7, vc7, hv7⟩ := (ints_nums i7).shape
    subst hv7
    rw [List.nil_append] at e7 i7
    have E7 := Lib.hid e7
    have I7 := Lib.hid i7
    clear ib7 kb6 kb7 e7 i7 g7
    go_upto_region 5 with fail
    refine wp_region_lit ?_
    refine @BigFrame.wpList_want _ _ _ _ _ _ _ ?hw62027 ?_
    case hw62027 => kernel_rfl
    intro K hK
    go_simp
    refine hK _ _ ?_
    clear hK K
    refine @BigFrame.wpList_want _ _ _ _ _ _ _ ?hw62028 ?_
    case hw62028 => kernel_rfl
    intro K hK
    go_simp
    refine hK _ _ ?_
    clear hK K
    refine @BigFrame.wpList_want _ _ _ _ _ _ _ ?hw62029 ?_
    case hw62029 => kernel_rfl
    intro K hK
    go_simp
    refine hK _ _ ?_
    clear hK K
    refine wpList_append_known rfl (.tmp 23) (.tmp 25) 35 35 35 rfl rfl (.slice none 0 0) (.slice (some ⟨w1.heap.size, 0, none⟩) 1 1) rfl rfl E7.out ?_
    simp only [Act.put, List.setIfInBounds_toArray, List.set_cons_zero, List.set_cons_succ]
    refine @BigFrame.wpList_want _ _ _ _ _ _ _ ?hw62030 ?_
    case hw62030 => kernel_rfl
    intro K hK
    go_simp
    refine hK _ _ ?_
    clear hK K
    go_upto_region 6 with fail
    refine wp_region_lit ?_
    refine @BigFrame.wpList_want _ _ _ _ _ _ _ ?hw62031 ?_
    case hw62031 => kernel_rfl
    intro K hK
    go_simp
    refine hK _ _ ?_
    clear hK K
    refine @BigFrame.wpList_want _ _ _ _ _ _ _ ?hw62032 ?_
    case hw62032 => kernel_rfl
    intro K hK
    go_simp
    refine hK _ _ ?_
    clear hK K
    go_wp2
    go_ret
    exact ⟨_, rfl, by rw [HRB.out]; exact ints_more I7.out (by have := HTB.out; omega), K7.out⟩
  ·have h2 : 2 ≤ m := by omega
   have hh1 := Bo.half_pos m
   have hh2 := Bo.half_lt h2
   have hrt := Bo.root_two (a := a) h2
   obtain ⟨j, hj⟩ : ∃ j, j = Bo.root a m / 2 := ⟨_, rfl⟩
   have hxj : Bo.root a m = 2 * j + 1 := by omega
   have hjP : j < P.length := by rw [hF.par]; omega
   obtain ⟨rfl, hg, hok, sl, hr, hnums⟩ := hpc j hjP
   have hget : P.getD (Bo.root a m / 2) Pr.zero = P[j] := by rw [← hj, List.getD_eq_getElem?_getD, List.getElem?_eq_getElem hjP]; rfl
   have hl9 := hF.len _ (List.getElem_mem hjP)
   have hlse := hF.lse _ (List.getElem_mem hjP)
   have eside := (Bo.say_sides (hseg.inn hn1) h64 (hseg.part hn1 h64)).2 h1
   have HLE := Lib.hid (fun u => rleft_calls (n : Int) ((Bo.root a m : Nat) : Int) u)
   have HRI := Lib.hid (fun u => rright_calls (n : Int) ((Bo.root a m : Nat) : Int) u)
   rw [eside.1] at HLE
   rw [eside.2] at HRI
   have HH1 := Lib.hid (fun (u : World) (kk : Kept w.heap.size w.heap.size w u) => ih a (Bo.half m) _ _ (by omega) (hseg.left h2) _ _ u (hL0.kept kk) (hP0.kept kk))
   have HH2 := Lib.hid (fun (u : World) (kk : Kept w.heap.size w.heap.size w u) => ih (a + Bo.half m) (m - Bo.half m) _ _ (by omega) (hseg.right h2) _ _ u (hL0.kept kk) (hP0.kept kk))
   have hres : Tt.resSeg L P (k + 1) a m = if P[j].set then ((Bo.root a m : Nat) : Int) :: P[j].loose.map (fun y => 2 * y) else Tt.resSeg L P k a (Bo.half m) ++ Tt.resSeg L P k (a + Bo.half m) (m - Bo.half m) := by rw [Tt.resSeg, if_neg h1, hget]
   rw [hres]
   have hR1 := Tt.resSeg_length L P hF.len k a (Bo.half m) hh1
   have hR2 := Tt.resSeg_length L P hF.len k (a + Bo.half m) (m - Bo.half m) (by omega)
   obtain ⟨R1, hR1x⟩ : ∃ R, R = Tt.resSeg L P k a (Bo.half m) := ⟨_, rfl⟩
   obtain ⟨R2, hR2x⟩ : ∃ R, R = Tt.resSeg L P k (a + Bo.half m) (m - Bo.half m) := ⟨_, rfl⟩
   rw [← hR1x] at HH1 hR1 ⊢
   rw [← hR2x] at HH2 hR2 ⊢
   have HR1 := Lib.hid (show R1.length ≤ 100000 by omega)
   have HR2 := Lib.hid (show R1.length + R2.length < 1000000 by omega)
   have HINF := Lib.hid (show (Tryz.prog.info? 75).map (·.size) = some (P[j].cells sl).length by have := parentInfo (Pr.size hok sl); simpa using this)
   obtain ⟨y1, hy1⟩ : ∃ y : Int, y = ((Bo.root a (Bo.half m) : Nat) : Int) := ⟨_, rfl⟩
   obtain ⟨y2, hy2⟩ : ∃ y : Int, y = ((Bo.root (a + Bo.half m) (m - Bo.half m) : Nat) : Int) := ⟨_, rfl⟩
   rw [← hy1] at HLE HH1
   rw [← hy2] at HRI HH2
   obtain ⟨x, hx⟩ : ∃ x : Int, x = ((Bo.root a m : Nat) : Int) := ⟨_, rfl⟩
   rw [← hx] at HLE HRI ⊢
   have hx2 : x = 2 * (j : Int) + 1 := by rw [hx, hxj]; omega
   have HQU := Lib.hid (show IntKind.i64.wrap (x.tdiv 2) = (j : Int) by rw [show x.tdiv 2 = (j : Int) by rw [hx2, Int.tdiv_eq_ediv_of_nonneg (by omega)]; omega, wrap_small _ (by omega) (by omega)])
   have HRM := Lib.hid (show x.tmod 2 = 1 by rw [hx2, Int.tmod_eq_emod_of_nonneg (by omega)]; omega)
   have HWR := Lib.hid (show IntKind.i64.wrap (x.tmod 2) = 1 by rw [show x.tmod 2 = 1 by rw [hx2, Int.tmod_eq_emod_of_nonneg (by omega)]; omega]; rfl)
   have hjl : (j : Int) < (pn : Int) := by omega
   have hj0 : ¬ (j : Int) < 0 := by omega
   have hnl : n = ln := by omega
   subst hnl
   rw [← hln, ← hpn] at HH1 HH2
   obtain ⟨sad, sc, ng, no, rfl, hnc⟩ := hnums
   obtain ⟨sn, hsn⟩ : ∃ sn, sn = P[j].loose.length := ⟨_, rfl⟩
   rw [← hsn] at hr HINF hl9
   have HSN := Lib.hid hsn
   have HNC := Lib.hid hnc
   have HLO := Lib.hid hlse
   have HOK := Lib.hid hok
   have HSZ := Lib.hid (Pr.size hok (.slice sad sn sc))
   have HAL := Lib.hid (P[j].all sad sn sc)
   obtain ⟨pj, hpj⟩ : ∃ pj, pj = P[j] := ⟨_, rfl⟩
   obtain ⟨ct, hct⟩ : ∃ ct, ct = P[j].cells (.slice sad sn sc) := ⟨_, rfl⟩
   rw [← hct] at hr HINF HSZ HAL
   have HCT := Lib.hid hct
   have HLD := Lib.hid (fun (u : World) (kk : Kept w.heap.size w.heap.size w u) => run_loadVar_mid u pg (po + j * 66) 75 ct _ (rangeAt_kept kk hr hg (Nat.ne_of_lt hg)) Tryz.underlying75 rfl HINF.out)
   obtain ⟨st, hst⟩ : ∃ st, st = P[j].set := ⟨_, rfl⟩
   have HST := Lib.hid hst
   rw [← hst]
   obtain ⟨RR, hRR⟩ : ∃ RR : List Int, RR = (if st = true then x :: P[j].loose.map (fun y => 2 * y) else R1 ++ R2) := ⟨_, rfl⟩
   rw [← hRR]
   have HRR := Lib.hid hRR
   rw [← hln, ← hpn]
   clear hRR
   clear ih hmk hseg hm1 ham hlc hL0 hP0 hpc hget hok hlse eside hst hct hpj pj hsn hnc hR1 hR2 hR1x hR2x hres hy1 hy2 hx hx2 hg hr hh1 hh2 hrt hj hxj h1 h2 hpn hln h64 hn hn1 hlcc
   have k1 := (Kept.refl w.heap.size w.heap.size w).alloc (Nat.le_refl _) (.cells #[.slice lad n lc, .slice (some ⟨pg, po, none⟩) pn pc] 27)
   have t1 := heap_new w (.cells #[.slice lad n lc, .slice (some ⟨pg, po, none⟩) pn pc] 27)
   go_enter Tryz.func25, Tryz.ntmps25
   go_upto_region 1 with fail
   generalize w.alloc (.cells #[.slice lad n lc, .slice (some ⟨pg, po, none⟩) pn pc] 27) = w1 at k1 t1 ⊢
   obtain ⟨tb, htb⟩ : ∃ tb, tb = w.heap.size := ⟨_, rfl⟩
   have HTB := Lib.hid (show w.heap.size ≤ tb by omega)
   rw [← htb] at t1
   (try rw [← htb])
   have K1 := Lib.hid k1
   have T1 := Lib.hid t1
   have t0 := two_cell0 t1
   clear k1 t1 htb
   refine wp_region_lit ?_
   refine @BigFrame.wpList_want _ _ _ _ _ _ _ ?hw62033 ?_
   case hw62033 => kernel_rfl
   intro K hK
   go_simp
   refine hK _ _ ?_
   clear hK K
   go_upto_region 2 with fail
   refine wp_region_lit ?_
   refine @BigFrame.wpList_want _ _ _ _ _ _ _ ?hw62034 ?_
   case hw62034 => kernel_rfl
   intro K hK
   go_simp
   refine hK _ _ ?_
   clear hK K
   refine @BigFrame.wpList_want _ _ _ _ _ _ _ ?hw62035 ?_
   case hw62035 => kernel_rfl
   intro K hK
   go_simp
   refine hK _ _ ?_
   clear hK K
   refine @BigFrame.wpList_want _ _ _ _ _ _ _ ?hw62036 ?_
   case hw62036 => kernel_rfl
   intro K hK
   go_simp
   refine hK _ _ ?_
   clear hK K
   refine @BigFrame.wpList_want _ _ _ _ _ _ _ ?hw62037 ?_
   case hw62037 => kernel_rfl
   intro K hK
   go_simp
   refine hK _ _ ?_
   clear hK K
   clear t0
   go_upto_region 3 with fail
   refine wp_region_lit ?_
   refine @BigFrame.wpList_want _ _ _ _ _ _ _ ?hw62038 ?_
   case hw62038 => kernel_rfl
   intro K hK
   go_simp
   refine hK _ _ ?_
   clear hK K
   refine @BigFrame.wpList_want _ _ _ _ _ _ _ ?hw62039 ?_
   case hw62039 => kernel_rfl
   intro K hK
   go_simp
   refine hK _ _ ?_
   clear hK K
   (try rw [HWR.out])
   (try rw [HRM.out])
   refine @BigFrame.wpList_want _ _ _ _ _ _ _ ?hw62040 ?_
   case hw62040 => kernel_rfl
   intro K hK
   go_simp
   refine hK _ _ ?_
   clear hK K
   have t0 := two_cell1 T1.out
   go_upto_region 7 with fail
   refine wp_region_lit ?_
   refine @BigFrame.wpList_want _ _ _ _ _ _ _ ?hw62041 ?_
   case hw62041 => kernel_rfl
   intro K hK
   go_simp
   refine hK _ _ ?_
   clear hK K
   refine @BigFrame.wpList_want _ _ _ _ _ _ _ ?hw62042 ?_
   case hw62042 => kernel_rfl
   intro K hK
   go_simp
   refine hK _ _ ?_
   clear hK K
   refine @BigFrame.wpList_want _ _ _ _ _ _ _ ?hw62043 ?_
   case hw62043 => kernel_rfl
   intro K hK
   go_simp
   refine hK _ _ ?_
   clear hK K
   refine @BigFrame.wpList_want _ _ _ _ _ _ _ ?hw62044 ?_
   case hw62044 => kernel_rfl
   intro K hK
   go_simp
   refine hK _ _ ?_
   clear hK K
   rw [HQU.out]
   refine @BigFrame.wpList_want _ _ _ _ _ _ _ ?hw62045 ?_
   case hw62045 => kernel_rfl
   intro K hK
   go_simp
   refine hK _ _ ?_
   clear hK K
   refine @wpList_load_known _ _ _ _ _ _ _ ?hw62046 75 (.tmp 32) rfl (pg) (po + j * 66) rfl (.agg ct.toArray) (HLD.out _ K1.out) ?_
   case hw62046 => kernel_rfl
   simp only [Act.put, List.setIfInBounds_toArray, List.set_cons_zero, List.set_cons_succ]
   refine @wpL_alloc _ _ _ _ _ _ _ _ ?hw62047 75 rfl _ (alloc_parent _) ?_
   case hw62047 => kernel_rfl
   simp only [Act.put, List.setIfInBounds_toArray, List.set_cons_zero, List.set_cons_succ]
   refine wpList_store_row rfl 75 _ _ rfl (w1.heap.size) ct.toArray rfl rfl 75 (Pr.zero.cells (.slice none 0 0)).toArray (heap_new _ _) (parentInfo HSZ.out) (by rw [HSZ.out]; exact Pr.size Pr.zero_ok _) (HAL.out) ?_
   simp only [Act.put]
   rw [World.setRow_alloc_new]
   clear t0
   have k2 := (Kept.refl w1.heap.size w1.heap.size w1).alloc (Nat.le_refl _) (.cells ct.toArray 75)
   have b2 := heap_new w1 (.cells ct.toArray 75)
   have t2 := (k2.block tb (lt_of_block T1.out) (Nat.ne_of_lt (lt_of_block T1.out))).trans T1.out
   have hbt : tb < w1.heap.size := lt_of_block T1.out
   generalize w1.alloc (.cells ct.toArray 75) = w2 at k2 b2 t2 ⊢
   obtain ⟨pb, hpb⟩ : ∃ pb, pb = w1.heap.size := ⟨_, rfl⟩
   rw [← hpb] at b2 hbt
   (try rw [← hpb])
   have K2 := Lib.hid (K1.out.next1 k2)
   have T2 := Lib.hid t2
   rw [HCT.out] at b2
   have B2 := Lib.hid b2
   have HBT := Lib.hid hbt
   have c0 := pr_cell0 b2
   rw [← HST.out] at c0
   clear k2 b2 t2 hpb hbt T1 K1
   go_upto_region 8 with fail
   refine wp_region_lit ?_
   refine @BigFrame.wpList_want _ _ _ _ _ _ _ ?hw62048 ?_
   case hw62048 => kernel_rfl
   intro K hK
   go_simp
   refine hK _ _ ?_
   clear hK K
   refine @BigFrame.wpList_want _ _ _ _ _ _ _ ?hw62049 ?_
   case hw62049 => kernel_rfl
   intro K hK
   go_simp
   refine hK _ _ ?_
   clear hK K
   clear c0
   cases st with
   | true =>
    have HRB := Lib.hid (show RR = x :: P[j].loose.map (fun y => 2 * y) by rw [HRR.out, if_pos rfl])
    have ib7 := ints_none (w2.alloc (.cells #[.int .i64 x] 3)) (pb + 1)
    have kb6 := K2.out.alloc K2.out.size (.cells #[.int .i64 x] 3)
    have pb6 := (heap_alloc_old w2 (.cells #[.int .i64 x] 3) (lt_of_block B2.out)).trans B2.out
    have kb7 : pb + 1 ≤ (w2.alloc (.cells #[.int .i64 x] 3)).heap.size := by have := lt_of_block B2.out; simp; omega
    obtain ⟨v7, w7, e7, i7, g7⟩ := append_intR _ (pb + 1) (.slice none 0 0) ([]) x ib7 w2.heap.size 1 (one_cellT (heap_new w2 (.cells #[.int .i64 x] 3))) (by decide) kb7
    have K7 := Lib.hid (kb6.grown g7 kb6.size (fun k e => nomatch e))
    have B7 := Lib.hid ((g7.block pb (lt_of_block pb6) (fun e => nomatch e)).trans pb6)
    obtain ⟨vad7, vc7, hv7⟩ := (ints_nums i7).shape
    subst hv7
    rw [List.nil_append] at e7 i7
    have E7 := Lib.hid e7
    have I7 : Hid (Ints w7 (pb + 1) (.slice vad7 1 vc7) (x :: (P[j].loose.take 0).map (fun y => 2 * y))) := Lib.hid i7
    clear ib7 kb6 kb7 pb6 e7 i7 g7
    go_upto_region 9 with fail
    refine wp_region_lit ?_
    refine @BigFrame.wpList_want _ _ _ _ _ _ _ ?hw62050 ?_
    case hw62050 => kernel_rfl
    intro K hK
    go_simp
    refine hK _ _ ?_
    clear hK K
    refine @BigFrame.wpList_want _ _ _ _ _ _ _ ?hw62051 ?_
    case hw62051 => kernel_rfl
    intro K hK
    go_simp
    refine hK _ _ ?_
    clear hK K
    refine @BigFrame.wpList_want _ _ _ _ _ _ _ ?hw62052 ?_
    case hw62052 => kernel_rfl
    intro K hK
    go_simp
    refine hK _ _ ?_
    clear hK K
    refine wpList_append_known rfl (.tmp 36) (.tmp 38) 35 35 35 rfl rfl (.slice none 0 0) (.slice (some ⟨w2.heap.size, 0, none⟩) 1 1) rfl rfl E7.out ?_
    simp only [Act.put, List.setIfInBounds_toArray, List.set_cons_zero, List.set_cons_succ]
    refine @BigFrame.wpList_want _ _ _ _ _ _ _ ?hw62053 ?_
    case hw62053 => kernel_rfl
    intro K hK
    go_simp
    refine hK _ _ ?_
    clear hK K
    clear E7 HH1 HH2 HLE HRI HLD HR1 HR2
    go_wp2
    go_loopw [5, 8] (fun s5 s8 wr => ∃ i : Nat, ∃ v, s5 = v ∧ s8 = .int .i64 (i : Int) ∧ Hid (i ≤ sn) ∧ Hid (Kept w.heap.size w.heap.size w wr) ∧ Hid (wr.heap[pb]? = some (.cells (P[j].cells (.slice sad sn sc)).toArray 75 (0, 0))) ∧ Hid (Ints wr (pb + 1) v (x :: (P[j].loose.take i).map (fun y => 2 * y)))) (fun _ s8 _ => sn - (RowKit.intOf s8).toNat)
    case atStart => exact ⟨0, _, rfl, rfl, Lib.hid (Nat.zero_le _), K7, B7, I7⟩
    case round =>
     clear K7 B7 I7
     obtain ⟨i, v, rfl, rfl, hi, HK, HB, HI⟩ := hrel
     have c65 := pr_loose HOK.out HB.out
     by_cases hlt : i < sn
     ·have hiL : i < P[j].loose.length := by rw [← HSN.out]; exact hlt
      have hlti : (i : Int) < (sn : Int) := by omega
      have hi0 : ¬ (i : Int) < 0 := by omega
      obtain ⟨hsad, hg, hcell⟩ := HNC.out i hiL
      subst hsad
      obtain ⟨y, hy⟩ : ∃ y, y = P[j].loose[i] := ⟨_, rfl⟩
      obtain ⟨hy0, hy1⟩ := HLO.out _ (List.getElem_mem hiL)
      rw [← hy] at hcell hy0 hy1
      have c0 := (HK.out.cell (p := ⟨ng, no + i, none⟩) hg (Nat.ne_of_lt hg)).trans hcell
      have hwm : IntKind.i64.wrap (2 * y) = 2 * y := wrap_small _ (by omega) (by omega)
      have HWM := Lib.hid hwm
      obtain ⟨z, hz⟩ : ∃ z, z = 2 * y := ⟨_, rfl⟩
      have HZ := Lib.hid hz
      have HTK := Lib.hid (show (x :: (P[j].loose.take i).map (fun y => 2 * y)) ++ [z] = x :: (P[j].loose.take (i + 1)).map (fun y => 2 * y) by
       rw [List.take_succ_eq_append_getElem hiL, List.map_append, ← hy, hz]
       rfl)
      obtain ⟨vad, vc, hv⟩ := (ints_nums HI.out).shape
      subst hv
      have hvl : (x :: (P[j].loose.take i).map (fun y => 2 * y)).length ≤ 1001 := by rw [List.length_cons, List.length_map, List.length_take]; omega
      obtain ⟨vn, hvn⟩ : ∃ vn, vn = (x :: (P[j].loose.take i).map (fun y => 2 * y)).length := ⟨_, rfl⟩
      rw [← hvn] at HI ⊢
      have ib8 := HI.out.alloc (.cells #[.int .i64 z] 3)
      have kb8 := HK.out.alloc HK.out.size (.cells #[.int .i64 z] 3)
      have pb8 := (heap_alloc_old wr (.cells #[.int .i64 z] 3) (lt_of_block HB.out)).trans HB.out
      have sz8 : pb + 1 ≤ (wr.alloc (.cells #[.int .i64 z] 3)).heap.size := by have := lt_of_block HB.out; simp; omega
      obtain ⟨v9, w9, e9, i9, g9⟩ := append_intR _ (pb + 1) _ _ z ib8 wr.heap.size 1 (one_cellT (heap_new wr (.cells #[.int .i64 z] 3))) (by omega) sz8
      have hbo : ∀ q, (Value.slice vad vn vc).ownBlock = some q → pb + 1 ≤ q := fun q e => (World.ownsRow.lt ib8 q e).1
      have K9 := Lib.hid (kb8.grown g9 kb8.size (fun q e => by have := hbo q e; have := HBT.out; have := HTB.out; omega))
      have B9 := Lib.hid ((g9.block pb (lt_of_block pb8) (fun e => by have := hbo pb e.symm; omega)).trans pb8)
      rw [HTK.out] at i9
      obtain ⟨vad9, vc9, hv9⟩ := (ints_nums i9).shape
      subst hv9
      obtain ⟨vn9, hvn9⟩ : ∃ vn9, vn9 = (x :: (P[j].loose.take (i + 1)).map (fun y => 2 * y)).length := ⟨_, rfl⟩
      rw [← hvn9] at e9 i9
      have E9 := Lib.hid e9
      have I9 := Lib.hid i9
      have HLTT := Lib.hid hlt
      clear hlt hi hiL hg hcell hy hy0 hy1 hvl hvn hvn9 ib8 kb8 pb8 sz8 hbo e9 i9 g9 hwm hz
      go_upto_region 13 with fail
      refine wp_region_lit ?_
      refine @BigFrame.wpList_want _ _ _ _ _ _ _ ?hw62054 ?_
      case hw62054 => kernel_rfl
      intro K hK
      go_simp
      refine hK _ _ ?_
      clear hK K
      refine @BigFrame.wpList_want _ _ _ _ _ _ _ ?hw62055 ?_
      case hw62055 => kernel_rfl
      intro K hK
      go_simp
      refine hK _ _ ?_
      clear hK K
      refine @BigFrame.wpList_want _ _ _ _ _ _ _ ?hw62056 ?_
      case hw62056 => kernel_rfl
      intro K hK
      go_simp
      refine hK _ _ ?_
      clear hK K
      refine @BigFrame.wpList_want _ _ _ _ _ _ _ ?hw62057 ?_
      case hw62057 => kernel_rfl
      intro K hK
      go_simp
      refine hK _ _ ?_
      clear hK K
      refine @BigFrame.wpList_want _ _ _ _ _ _ _ ?hw62058 ?_
      case hw62058 => kernel_rfl
      intro K hK
      go_simp
      refine hK _ _ ?_
      clear hK K
      refine @BigFrame.wpList_want _ _ _ _ _ _ _ ?hw62059 ?_
      case hw62059 => kernel_rfl
      intro K hK
      go_simp
      refine hK _ _ ?_
      clear hK K
      refine @BigFrame.wpList_want _ _ _ _ _ _ _ ?hw62060 ?_
      case hw62060 => kernel_rfl
      intro K hK
      go_simp
      refine hK _ _ ?_
      clear hK K
      rw [HWM.out, ← HZ.out]
      refine @BigFrame.wpList_want _ _ _ _ _ _ _ ?hw62061 ?_
      case hw62061 => kernel_rfl
      intro K hK
      go_simp
      refine hK _ _ ?_
      clear hK K
      refine wpList_append_known rfl (.tmp 47) (.tmp 54) 35 35 35 rfl rfl (.slice vad vn vc) (.slice (some ⟨wr.heap.size, 0, none⟩) 1 1) rfl rfl E9.out ?_
      simp only [Act.put, List.setIfInBounds_toArray, List.set_cons_zero, List.set_cons_succ]
      refine @BigFrame.wpList_want _ _ _ _ _ _ _ ?hw62062 ?_
      case hw62062 => kernel_rfl
      intro K hK
      go_simp
      refine hK _ _ ?_
      clear hK K
      clear c0 c65
      go_wp2
      go_roundw
      case rel => exact ⟨i + 1, _, rfl, by simp, Lib.hid HLTT.out, K9, B9, I9⟩
      case measure => have := HLTT.out; simp [RowKit.intOf]; omega
     ·have hnl : ¬ (i : Int) < (sn : Int) := by omega
      have HE := Lib.hid (show P[j].loose.take i = P[j].loose by rw [List.take_of_length_le]; have := hi.out; have := HSN.out; omega)
      rw [HE.out] at HI
      obtain ⟨vad, vc, hv⟩ := (ints_nums HI.out).shape
      subst hv
      obtain ⟨vn, hvn⟩ : ∃ vn, vn = (x :: P[j].loose.map (fun y => 2 * y)).length := ⟨_, rfl⟩
      rw [← hvn] at HI ⊢
      clear hlt hi hvn
      go_wp2
      go_ret
      exact ⟨_, rfl, by rw [HRB.out]; exact ints_more HI.out (by have := HBT.out; have := HTB.out; omega), HK.out⟩
   | false =>
    have HRB := Lib.hid (show RR = R1 ++ R2 by rw [HRR.out, if_neg (by decide)])
    go_upto_region 15 with fail
    refine wp_region_noPanic ?_
    obtain ⟨wd15, hwd⟩ : ∃ wd, wd = w2.drew := ⟨_, rfl⟩
    have hkd15 : Kept w2.heap.size w2.heap.size w2 wd15 := by rw [hwd]; exact (Kept.refl _ _ _).drew
    have hs15 : Kept w.heap.size w.heap.size w wd15 ∧ wd15.heap[tb]? = some (.cells #[.slice lad n lc, .slice (some ⟨pg, po, none⟩) pn pc] 27 (0, 0)) := ⟨K2.out.next1 hkd15, (hkd15.block tb (lt_of_block T2.out) (Nat.ne_of_lt (lt_of_block T2.out))).trans T2.out⟩
    have HLT15 := Lib.hid (fun (u : World) (h : Kept w.heap.size w.heap.size w u ∧ u.heap[tb]? = some (.cells #[.slice lad n lc, .slice (some ⟨pg, po, none⟩) pn pc] 27 (0, 0))) => run_loadVar_row u tb 27 27 _ (0, 0) _ h.2 Tryz.underlying27 rfl treeInfo)
    refine wp_region_heldTo 7 (S := fun u => Kept w.heap.size w.heap.size w u ∧ u.heap[tb]? = some (.cells #[.slice lad n lc, .slice (some ⟨pg, po, none⟩) pn pc] 27 (0, 0))) (by kernel_rfl) (by rw [← hwd]; exact hs15) (fun hH => ?_)
    rw [← hwd] at hH ⊢
    clear hwd
    refine heldTo_take (i := 0) 57 (.slice none 0 0) rfl rfl (by kernel_rfl) (by kernel_rfl) (by kernel_rfl) (by kernel_rfl) (fun _ _ _ h => h) (.inl ⟨by kernel_rfl, fun w9 _ => by go_simp; first | done | rfl⟩) hH ?_
    simp only [List.setIfInBounds_toArray, List.set_cons_zero, List.set_cons_succ]
    refine heldTo_take (i := 1) 58 (.agg #[.slice lad n lc, .slice (some ⟨pg, po, none⟩) pn pc]) rfl rfl (by kernel_rfl) (by kernel_rfl) (by kernel_rfl) (by kernel_rfl) (fun _ _ _ h => h) (yieldsIf_load_known (by kernel_rfl) 27 _ rfl (tb) (0) rfl (.agg #[.slice lad n lc, .slice (some ⟨pg, po, none⟩) pn pc]) (HLT15.out)) hH ?_
    simp only [List.setIfInBounds_toArray, List.set_cons_zero, List.set_cons_succ]
    refine heldTo_take (i := 2) 59 (.int .i64 (n : Int)) rfl rfl (by kernel_rfl) (by kernel_rfl) (by kernel_rfl) (by kernel_rfl) (fun _ _ _ h => h) (.inl ⟨by kernel_rfl, fun w9 _ => by go_simp; first | done | rfl⟩) hH ?_
    simp only [List.setIfInBounds_toArray, List.set_cons_zero, List.set_cons_succ]
    refine heldTo_take (i := 3) 60 (.int .i64 x) rfl rfl (by kernel_rfl) (by kernel_rfl) (by kernel_rfl) (by kernel_rfl) (fun _ _ _ h => h) (.inl ⟨by kernel_rfl, fun w9 _ => by go_simp; first | done | rfl⟩) hH ?_
    simp only [List.setIfInBounds_toArray, List.set_cons_zero, List.set_cons_succ]
    refine heldTo_one (i := 4) (by kernel_rfl) rfl (fun K hK => ?_)
    rw [if_pos (by rfl)]
    go_simp
    go_wp2_with (go_at_call 67; refine (HLE.out _).mono ?_; rintro e w15a ⟨rfl, hwx⟩; subst hwx)
    refine hK.out _ _ hH (fun hH => ?_)
    clear hK K
    refine heldTo_one (i := 5) (by kernel_rfl) rfl (fun K hK => ?_)
    rw [if_pos (by rfl)]
    go_simp
    go_wp2_with (go_at_call 25; refine (HH1.out _ hs15.1).mono ?_; rintro e w15b ⟨u15, rfl, iu15, ku15⟩)
    have KB15 := hkd15.next1 ku15
    have bx15 := (KB15.block pb (lt_of_block B2.out) (Nat.ne_of_lt (lt_of_block B2.out))).trans B2.out
    have tx15 := (KB15.block tb (lt_of_block T2.out) (Nat.ne_of_lt (lt_of_block T2.out))).trans T2.out
    have kx15 := K2.out.next1 KB15
    refine hK.out _ _ ⟨kx15, tx15⟩ (fun hH => ?_)
    clear hK K
    have iv15 := (ints_none w2 (pb + 1)).kept KB15
    obtain ⟨v15, w15, e15, i15, g15⟩ := append_row8 _ _ _ _ _ _ _ iv15 iu15 (by have := HR2.out; (try simp only [List.length_nil]); omega) (show pb + 1 ≤ w15b.heap.size from lt_of_block bx15)
    have hbo15 : ∀ q, (.slice none 0 0 : Value).ownBlock = some q → pb + 1 ≤ q := fun q e => (World.ownsRow.lt iv15 q e).1
    have K15 := Lib.hid (kx15.grown g15 kx15.size (fun q e => by have := hbo15 q e; have := HBT.out; have := HTB.out; omega))
    have T15 := Lib.hid ((g15.block tb (lt_of_block tx15) (fun e => by have := hbo15 tb e.symm; have := HBT.out; omega)).trans tx15)
    have B15 := Lib.hid ((g15.block pb (lt_of_block bx15) (fun e => by have := hbo15 pb e.symm; omega)).trans bx15)
    obtain ⟨uad15, uc15, hu15⟩ := (ints_nums iu15).shape
    subst hu15
    obtain ⟨un15, hun15⟩ : ∃ un, un = R1.length := ⟨_, rfl⟩
    obtain ⟨vad15, vc15, hv15⟩ := (ints_nums i15).shape
    subst hv15
    obtain ⟨vn15, hvn15⟩ : ∃ vn, vn = ([] ++ R1).length := ⟨_, rfl⟩
    rw [← hvn15] at i15 e15
    rw [← hun15] at e15 ⊢
    have I15 := Lib.hid i15
    clear bx15 tx15 kx15 iv15 iu15 i15 g15 hbo15 hun15 hvn15 KB15 ku15
    refine heldTo_one (i := 6) (by kernel_rfl) rfl (fun K hK => ?_)
    rw [if_pos (by rfl)]
    refine wp_append_dst (.tmp 57) (.tmp 62) 35 35 35 rfl rfl (some 63) rfl (.slice none 0 0) (.slice uad15 un15 uc15) (.slice vad15 vn15 vc15) rfl rfl e15 ?_
    refine hK.out _ _ ⟨K15.out, T15.out⟩ (fun hH => ?_)
    clear hK K e15
    refine heldTo_last (by kernel_rfl) rfl (fun K hK => ?_)
    rw [if_pos (by rfl)]
    go_simp
    refine hK.out _ _ ?_
    clear hK K
    refine heldTo_done (by kernel_rfl) ?_ _
    refine NoPanic.normal ?_
    clear hH
    have J15 := Lib.hid (show Ints w15 (pb + 1) (.slice vad15 vn15 vc15) R1 from I15.out)
    go_upto_region 16 with fail
    refine wp_region_noPanic ?_
    obtain ⟨wd16, hwd⟩ : ∃ wd, wd = w15.drew := ⟨_, rfl⟩
    have hkd16 : Kept w15.heap.size w15.heap.size w15 wd16 := by rw [hwd]; exact (Kept.refl _ _ _).drew
    have hs16 : Kept w.heap.size w.heap.size w wd16 ∧ wd16.heap[tb]? = some (.cells #[.slice lad n lc, .slice (some ⟨pg, po, none⟩) pn pc] 27 (0, 0)) := ⟨K15.out.next1 hkd16, (hkd16.block tb (lt_of_block T15.out) (Nat.ne_of_lt (lt_of_block T15.out))).trans T15.out⟩
    have HLT16 := Lib.hid (fun (u : World) (h : Kept w.heap.size w.heap.size w u ∧ u.heap[tb]? = some (.cells #[.slice lad n lc, .slice (some ⟨pg, po, none⟩) pn pc] 27 (0, 0))) => run_loadVar_row u tb 27 27 _ (0, 0) _ h.2 Tryz.underlying27 rfl treeInfo)
    refine wp_region_heldTo 7 (S := fun u => Kept w.heap.size w.heap.size w u ∧ u.heap[tb]? = some (.cells #[.slice lad n lc, .slice (some ⟨pg, po, none⟩) pn pc] 27 (0, 0))) (by kernel_rfl) (by rw [← hwd]; exact hs16) (fun hH => ?_)
    rw [← hwd] at hH ⊢
    clear hwd
    refine heldTo_take (i := 0) 64 (.slice vad15 vn15 vc15) rfl rfl (by kernel_rfl) (by kernel_rfl) (by kernel_rfl) (by kernel_rfl) (fun _ _ _ h => h) (.inl ⟨by kernel_rfl, fun w9 _ => by go_simp; first | done | rfl⟩) hH ?_
    simp only [List.setIfInBounds_toArray, List.set_cons_zero, List.set_cons_succ]
    refine heldTo_take (i := 1) 65 (.agg #[.slice lad n lc, .slice (some ⟨pg, po, none⟩) pn pc]) rfl rfl (by kernel_rfl) (by kernel_rfl) (by kernel_rfl) (by kernel_rfl) (fun _ _ _ h => h) (yieldsIf_load_known (by kernel_rfl) 27 _ rfl (tb) (0) rfl (.agg #[.slice lad n lc, .slice (some ⟨pg, po, none⟩) pn pc]) (HLT16.out)) hH ?_
    simp only [List.setIfInBounds_toArray, List.set_cons_zero, List.set_cons_succ]
    refine heldTo_take (i := 2) 66 (.int .i64 (n : Int)) rfl rfl (by kernel_rfl) (by kernel_rfl) (by kernel_rfl) (by kernel_rfl) (fun _ _ _ h => h) (.inl ⟨by kernel_rfl, fun w9 _ => by go_simp; first | done | rfl⟩) hH ?_
    simp only [List.setIfInBounds_toArray, List.set_cons_zero, List.set_cons_succ]
    refine heldTo_take (i := 3) 67 (.int .i64 x) rfl rfl (by kernel_rfl) (by kernel_rfl) (by kernel_rfl) (by kernel_rfl) (fun _ _ _ h => h) (.inl ⟨by kernel_rfl, fun w9 _ => by go_simp; first | done | rfl⟩) hH ?_
    simp only [List.setIfInBounds_toArray, List.set_cons_zero, List.set_cons_succ]
    refine heldTo_one (i := 4) (by kernel_rfl) rfl (fun K hK => ?_)
    rw [if_pos (by rfl)]
    go_simp
    go_wp2_with (go_at_call 68; refine (HRI.out _).mono ?_; rintro e w16a ⟨rfl, hwx⟩; subst hwx)
    refine hK.out _ _ hH (fun hH => ?_)
    clear hK K
    refine heldTo_one (i := 5) (by kernel_rfl) rfl (fun K hK => ?_)
    rw [if_pos (by rfl)]
    go_simp
    go_wp2_with (go_at_call 25; refine (HH2.out _ hs16.1).mono ?_; rintro e w16b ⟨u16, rfl, iu16, ku16⟩)
    have KB16 := hkd16.next1 ku16
    have bx16 := (KB16.block pb (lt_of_block B15.out) (Nat.ne_of_lt (lt_of_block B15.out))).trans B15.out
    have tx16 := (KB16.block tb (lt_of_block T15.out) (Nat.ne_of_lt (lt_of_block T15.out))).trans T15.out
    have kx16 := K15.out.next1 KB16
    refine hK.out _ _ ⟨kx16, tx16⟩ (fun hH => ?_)
    clear hK K
    have iv16 := J15.out.kept KB16
    obtain ⟨v16, w16, e16, i16, g16⟩ := append_row8 _ _ _ _ _ _ _ iv16 iu16 (by have := HR2.out; (try simp only [List.length_nil]); omega) (show pb + 1 ≤ w16b.heap.size from lt_of_block bx16)
    have hbo16 : ∀ q, (.slice vad15 vn15 vc15 : Value).ownBlock = some q → pb + 1 ≤ q := fun q e => (World.ownsRow.lt iv16 q e).1
    have K16 := Lib.hid (kx16.grown g16 kx16.size (fun q e => by have := hbo16 q e; have := HBT.out; have := HTB.out; omega))
    have T16 := Lib.hid ((g16.block tb (lt_of_block tx16) (fun e => by have := hbo16 tb e.symm; have := HBT.out; omega)).trans tx16)
    have B16 := Lib.hid ((g16.block pb (lt_of_block bx16) (fun e => by have := hbo16 pb e.symm; omega)).trans bx16)
    obtain ⟨uad16, uc16, hu16⟩ := (ints_nums iu16).shape
    subst hu16
    obtain ⟨un16, hun16⟩ : ∃ un, un = R2.length := ⟨_, rfl⟩
    obtain ⟨vad16, vc16, hv16⟩ := (ints_nums i16).shape
    subst hv16
    obtain ⟨vn16, hvn16⟩ : ∃ vn, vn = (R1 ++ R2).length := ⟨_, rfl⟩
    rw [← hvn16] at i16 e16
    rw [← hun16] at e16 ⊢
    have I16 := Lib.hid i16
    clear bx16 tx16 kx16 iv16 iu16 i16 g16 hbo16 hun16 hvn16 KB16 ku16
    refine heldTo_one (i := 6) (by kernel_rfl) rfl (fun K hK => ?_)
    rw [if_pos (by rfl)]
    refine wp_append_dst (.tmp 64) (.tmp 69) 35 35 35 rfl rfl (some 70) rfl (.slice vad15 vn15 vc15) (.slice uad16 un16 uc16) (.slice vad16 vn16 vc16) rfl rfl e16 ?_
    refine hK.out _ _ ⟨K16.out, T16.out⟩ (fun hH => ?_)
    clear hK K e16
    refine heldTo_last (by kernel_rfl) rfl (fun K hK => ?_)
    rw [if_pos (by rfl)]
    go_simp
    refine hK.out _ _ ?_
    clear hK K
    refine heldTo_done (by kernel_rfl) ?_ _
    refine NoPanic.normal ?_
    clear hH
    go_wp2
    go_ret
    exact ⟨_, rfl, by rw [HRB.out]; exact ints_more I16.out (by have := HBT.out; have := HTB.out; omega), K16.out⟩
namespace Tt
/-- What a node resolves to. -/
def resNode (L : List Lf) (P : List Pr) (x : Nat) : List Int := resSeg L P L.length (Bo.part L.length x).1 (Bo.part L.length x).2.1
end Tt
theorem refresolve_node (lv pv : Value) (L : List Lf) (P : List Pr) (hF : Tt.Fine L P) (x : Nat) (hx : Bo.In 0 L.length x) (w : World) (hL : Lvs w lv L) (hP : Pts w pv P) :
  Calls Tryz.prog 25 #[.agg #[lv, pv], .int .i64 (x : Int)] w fun e w' => ∃ v, e = .returned v ∧ Ints w' w.heap.size v (Tt.resNode L P x) ∧ Kept w.heap.size w.heap.size w w' := by
 obtain ⟨a, m, p, b, h1, h2, h3, h4, h5⟩ := Bo.seg_of hx hF.n64
 have := refresolve_calls L P hF L.length rfl hx.1 L.length a m p b (by omega) h1 lv pv w hL hP
 rw [h2] at this
 unfold Tt.resNode
 rw [h3]
 exact this

end Go.Proofs.YtilpehpiikdkbaaGreatDoor

namespace Go.Proofs.YtilpehpiikdkbaaGreatDoor
open Go.RowKit Go.Lib

theorem load_func8 {w : World} {g : Nat} {f : Fn} {c1 c2 : Array Value} (h : w.cell? ⟨g, 0, none⟩ = some (.func f c1 c2)) : (loadVar 81 ⟨g, 0, none⟩).run Tryz.prog w = .ok (.func f c1 c2) w := by
 go_simp
set_option maxRecDepth 100000 in
set_option maxHeartbeats 12800000 in
theorem gather_calls (L : List Lf) (P : List Pr) (hF : Tt.Fine L P) (n pn : Nat) (hn : n = L.length) (hpn : pn = P.length) (hn1 : 1 ≤ n) (lad pad : Option Addr) (lc pc : Nat) (we : World) (hL : Lvs we (.slice lad n lc) L) (hP : Pts we (.slice pad pn pc) P) (w0 : World) (B tb lb gb nb : Nat)
  (hWe : ∀ M x, Gs w0 B tb lb gb nb #[.slice lad n lc, .slice pad pn pc] 81 n M x → Kept we.heap.size we.heap.size we x) : ∀ (k a m : Nat) (p b : Int), m ≤ k → Bo.Seg n a m p b → ∀ (M : List Int) (w : World), M.length + 1001 * m ≤ 80000 → Gs w0 B tb lb gb nb #[.slice lad n lc, .slice pad pn pc] 81 n M w →
  Calls Tryz.prog 50 #[.int .i64 ((Bo.root a m : Nat) : Int), .pointer (some ⟨tb, 0, none⟩), .pointer (some ⟨lb, 0, none⟩), .pointer (some ⟨gb, 0, none⟩), .pointer (some ⟨nb, 0, none⟩)] w fun e w' => e = .returned (.tuple #[]) ∧ Gs w0 B tb lb gb nb #[.slice lad n lc, .slice pad pn pc] 81 n (M ++ Tt.resSeg L P k a m) w' := by
 intro k
 induction k with
 | zero =>
  intro a m p b h1 h2
  have := (h2.size hn1).1
  omega
 | succ k ih =>
  intro a m p b hmk hseg M w hM hG
  obtain ⟨hm1, ham⟩ := hseg.size hn1
  have h64 : n ≤ 64 := by rw [hn]; exact hF.n64
  by_cases h1 : m = 1
  ·subst h1
   have ha : a < L.length := by omega
   have hget : L.getD a Lf.zero = L[a] := by rw [List.getD_eq_getElem?_getD, List.getElem?_eq_getElem ha]; rfl
   have hres : Tt.resSeg L P (k + 1) a 1 = if L[a].name = 0 then [] else [((Bo.root a 1 : Nat) : Int)] := by rw [Tt.resSeg, if_pos rfl, hget]
   rw [hres]
   subst hn
   exact gather_leaf L P hF a ha w0 B tb lb gb nb lad pad lc pc pn 81 M w (fun M x h => hL.kept (hWe M x h)) (by omega) hG
  ·have h2 : 2 ≤ m := by omega
   have hh1 := Bo.half_pos m
   have hh2 := Bo.half_lt h2
   have hrt := Bo.root_two (a := a) h2
   obtain ⟨j, hj⟩ : ∃ j, j = Bo.root a m / 2 := ⟨_, rfl⟩
   have hxj : Bo.root a m = 2 * j + 1 := by omega
   have hjP : j < P.length := by rw [hF.par]; omega
   obtain ⟨pad', pg, po, pc', hsl, hpc, _⟩ := hP
   injection hsl with hs1 hs0 hs2
   subst hs1 hs2
   obtain ⟨rfl, hg, hok, sl, hr, hnums⟩ := hpc j hjP
   have hget : P.getD (Bo.root a m / 2) Pr.zero = P[j] := by rw [← hj, List.getD_eq_getElem?_getD, List.getElem?_eq_getElem hjP]; rfl
   have hl9 := hF.len _ (List.getElem_mem hjP)
   have hlse := hF.lse _ (List.getElem_mem hjP)
   have eside := (Bo.say_sides (hseg.inn hn1) h64 (hseg.part hn1 h64)).2 h1
   have HLE := Lib.hid (fun u => left_calls_of lenIs (n : Int) ((Bo.root a m : Nat) : Int) u)
   have HRI := Lib.hid (fun u => right_calls_of lenIs (n : Int) ((Bo.root a m : Nat) : Int) u)
   rw [eside.1] at HLE
   rw [eside.2] at HRI
   have hres : Tt.resSeg L P (k + 1) a m = if P[j].set then ((Bo.root a m : Nat) : Int) :: P[j].loose.map (fun y => 2 * y) else Tt.resSeg L P k a (Bo.half m) ++ Tt.resSeg L P k (a + Bo.half m) (m - Bo.half m) := by rw [Tt.resSeg, if_neg h1, hget]
   rw [hres]
   have hR1 := Tt.resSeg_length L P hF.len k a (Bo.half m) hh1
   have hmul : 1001 * Bo.half m + 1001 * (m - Bo.half m) = 1001 * m := by rw [← Nat.mul_add]; congr 1; omega
   have HH1 := Lib.hid (fun (u : World) (g : Gs w0 B tb lb gb nb #[.slice lad n lc, .slice (some ⟨pg, po, none⟩) pn pc] 81 n M u) => ih a (Bo.half m) _ _ (by omega) (hseg.left h2) M u (by omega) g)
   have HH2 := Lib.hid (fun (u : World) (g : Gs w0 B tb lb gb nb #[.slice lad n lc, .slice (some ⟨pg, po, none⟩) pn pc] 81 n (M ++ Tt.resSeg L P k a (Bo.half m)) u) => ih (a + Bo.half m) (m - Bo.half m) _ _ (by omega) (hseg.right h2) _ u (by rw [List.length_append]; omega) g)
   obtain ⟨R1, hR1x⟩ : ∃ R, R = Tt.resSeg L P k a (Bo.half m) := ⟨_, rfl⟩
   obtain ⟨R2, hR2x⟩ : ∃ R, R = Tt.resSeg L P k (a + Bo.half m) (m - Bo.half m) := ⟨_, rfl⟩
   rw [← hR1x] at HH1 HH2 ⊢
   rw [← hR2x] at HH2 ⊢
   obtain ⟨y1, hy1⟩ : ∃ y : Int, y = ((Bo.root a (Bo.half m) : Nat) : Int) := ⟨_, rfl⟩
   obtain ⟨y2, hy2⟩ : ∃ y : Int, y = ((Bo.root (a + Bo.half m) (m - Bo.half m) : Nat) : Int) := ⟨_, rfl⟩
   rw [← hy1] at HLE HH1
   rw [← hy2] at HRI HH2
   obtain ⟨x, hx⟩ : ∃ x : Int, x = ((Bo.root a m : Nat) : Int) := ⟨_, rfl⟩
   rw [← hx] at HLE HRI ⊢
   have hx2 : x = 2 * (j : Int) + 1 := by rw [hx, hxj]; omega
   have hxm : x.tmod 2 = 1 := by rw [hx2, Int.tmod_eq_emod_of_nonneg (by omega)]; omega
   have HQU := Lib.hid (show IntKind.i64.wrap (x.tdiv 2) = (j : Int) by rw [show x.tdiv 2 = (j : Int) by rw [hx2, Int.tdiv_eq_ediv_of_nonneg (by omega)]; omega, wrap_small _ (by omega) (by omega)])
   have HIL := Lib.hid (fun u => isleaf_no x (by rw [hxm]; rfl) hxm u)
   have hjl : (j : Int) < (pn : Int) := by omega
   have hj0 : ¬ (j : Int) < 0 := by omega
   obtain ⟨sad, sc, ng, no, rfl, hnc⟩ := hnums
   have hset := hr 0 (.bool P[j].set) (by simp [Pr.cells])
   rw [Nat.add_zero] at hset
   have hlo := hr 65 (.slice sad P[j].loose.length sc) (by simp [Pr.cells, bcells_length, hok.1, hok.2])
   obtain ⟨sn, hsn⟩ : ∃ sn, sn = P[j].loose.length := ⟨_, rfl⟩
   rw [← hsn] at hlo hl9
   have HSN := Lib.hid hsn
   have HNC := Lib.hid hnc
   have HLO := Lib.hid hlse
   have HWE := Lib.hid hWe
   have HCS := Lib.hid (fun (u : World) (kk : Kept we.heap.size we.heap.size we u) => (kk.cell (p := ⟨pg, po + j * 66, none⟩) hg (Nat.ne_of_lt hg)).trans hset)
   have HCL := Lib.hid (fun (u : World) (kk : Kept we.heap.size we.heap.size we u) => (kk.cell (p := ⟨pg, po + j * 66 + 65, none⟩) hg (Nat.ne_of_lt hg)).trans hlo)
   have HG := Lib.hid hG
   have HMM := Lib.hid (show M.length + 1001 ≤ 80000 by omega)
   obtain ⟨st, hst⟩ : ∃ st, st = P[j].set := ⟨_, rfl⟩
   rw [← hst] at HCS ⊢
   obtain ⟨RR, hRR⟩ : ∃ RR : List Int, RR = (if st = true then x :: P[j].loose.map (fun y => 2 * y) else R1 ++ R2) := ⟨_, rfl⟩
   rw [← hRR]
   have HRR := Lib.hid hRR
   have hc1 := HCS.out w (hWe M w hG)
   have t0 := two_cell1 hG.tree
   clear hRR ih hmk hseg hm1 ham hL hpc hget hok hlse eside hst hsn hnc hR1 hR1x hR2x hres hy1 hy2 hx hx2 hxm hset hlo hg hr hh1 hh2 hrt hj hxj h1 h2 hn hF hWe hG hM hmul h64 hn1 hpn hs0
   go_enter Tryz.func50, Tryz.ntmps50
   go_upto_region 0 with fail
   refine wp_region_lit ?_
   refine @BigFrame.wpList_want _ _ _ _ _ _ _ ?hw82001 ?_
   case hw82001 => kernel_rfl
   intro K hK
   go_simp
   refine hK _ _ ?_
   clear hK K
   refine @BigFrame.wpList_want _ _ _ _ _ _ _ ?hw82002 ?_
   case hw82002 => kernel_rfl
   intro K hK
   go_simp
   go_at_call 51
   refine (HIL.out _).mono ?_
   rintro e wx ⟨rfl, hwx⟩
   subst wx
   refine hK _ _ ?_
   clear hK K
   go_upto_region 3 with fail
   refine wp_region_lit ?_
   refine @BigFrame.wpList_want _ _ _ _ _ _ _ ?hw82003 ?_
   case hw82003 => kernel_rfl
   intro K hK
   go_simp
   refine hK _ _ ?_
   clear hK K
   refine @BigFrame.wpList_want _ _ _ _ _ _ _ ?hw82004 ?_
   case hw82004 => kernel_rfl
   intro K hK
   go_simp
   refine hK _ _ ?_
   clear hK K
   refine @BigFrame.wpList_want _ _ _ _ _ _ _ ?hw82005 ?_
   case hw82005 => kernel_rfl
   intro K hK
   go_simp
   refine hK _ _ ?_
   clear hK K
   refine @BigFrame.wpList_want _ _ _ _ _ _ _ ?hw82006 ?_
   case hw82006 => kernel_rfl
   intro K hK
   go_simp
   refine hK _ _ ?_
   clear hK K
   rw [HQU.out]
   refine @BigFrame.wpList_want _ _ _ _ _ _ _ ?hw82007 ?_
   case hw82007 => kernel_rfl
   intro K hK
   go_simp
   refine hK _ _ ?_
   clear hK K
   refine @BigFrame.wpList_want _ _ _ _ _ _ _ ?hw82008 ?_
   case hw82008 => kernel_rfl
   intro K hK
   go_simp
   refine hK _ _ ?_
   clear hK K
   refine @BigFrame.wpList_want _ _ _ _ _ _ _ ?hw82009 ?_
   case hw82009 => kernel_rfl
   intro K hK
   go_simp
   refine hK _ _ ?_
   clear hK K
   refine @BigFrame.wpList_want _ _ _ _ _ _ _ ?hw82010 ?_
   case hw82010 => kernel_rfl
   intro K hK
   go_simp
   refine hK _ _ ?_
   clear hK K
   clear t0 hc1
   cases st with
   | true =>
    have HRB := Lib.hid (show RR = x :: P[j].loose.map (fun y => 2 * y) by rw [HRR.out, if_pos rfl])
    clear HRR HH1 HH2 HLE HRI
    have HW1 := Lib.hid (HWE.out _ _ HG.out)
    obtain ⟨ad, m', c, adn, cn, w9, h9, e9, l9, g9⟩ := HG.out.add x (by have := HMM.out; omega)
    have c0 : w.cell? ⟨lb, 0, none⟩ = some (.slice ad m' c) := one_cellT h9
    have L9 := Lib.hid l9
    have E9 := Lib.hid e9
    have G9 : Hid (Gs w0 B tb lb gb nb #[.slice lad n lc, .slice (some ⟨pg, po, none⟩) pn pc] 81 n (M ++ x :: (P[j].loose.take 0).map (fun y => 2 * y)) (w9.setCell ⟨lb, 0, none⟩ (.slice adn (m' + 1) cn))) := Lib.hid (by
     rw [List.take_zero]
     exact g9)
    clear h9 l9 g9 e9
    go_upto_region 6 with fail
    refine wp_region_lit ?_
    refine @wpList_load_known _ _ _ _ _ _ _ ?hw82011 35 (.tmp 2) rfl (lb) (0) rfl (.slice ad m' c) (load_ints c0) ?_
    case hw82011 => kernel_rfl
    simp only [Act.put, List.setIfInBounds_toArray, List.set_cons_zero, List.set_cons_succ]
    refine @BigFrame.wpList_want _ _ _ _ _ _ _ ?hw82012 ?_
    case hw82012 => kernel_rfl
    intro K hK
    go_simp
    refine hK _ _ ?_
    clear hK K
    refine @BigFrame.wpList_want _ _ _ _ _ _ _ ?hw82013 ?_
    case hw82013 => kernel_rfl
    intro K hK
    go_simp
    refine hK _ _ ?_
    clear hK K
    refine wpList_append_known rfl (.tmp 40) (.tmp 42) 35 35 35 rfl rfl (.slice ad m' c) (.slice (some ⟨w.heap.size, 0, none⟩) 1 1) rfl rfl E9.out ?_
    simp only [Act.put, List.setIfInBounds_toArray, List.set_cons_zero, List.set_cons_succ]
    refine @wpL_store_part _ _ _ _ _ _ _ ?hw82900 35 _ _ rfl lb 0 [.slice ad m' c] 35 (.slice adn (m' + 1) cn) rfl rfl L9.out (Nat.zero_lt_succ _) rfl intsInfo8 ?_
    case hw82900 => kernel_rfl
    simp only [Act.put]
    clear c0 L9 E9
    generalize w9.setCell ⟨lb, 0, none⟩ (.slice adn (m' + 1) cn) = wa at G9 ⊢
    have t0 := two_cell1 G9.out.tree
    have cl := HCL.out _ (HWE.out _ _ G9.out)
    go_upto_region 7 with fail
    refine wp_region_lit ?_
    refine @BigFrame.wpList_want _ _ _ _ _ _ _ ?hw82014 ?_
    case hw82014 => kernel_rfl
    intro K hK
    go_simp
    refine hK _ _ ?_
    clear hK K
    refine @BigFrame.wpList_want _ _ _ _ _ _ _ ?hw82015 ?_
    case hw82015 => kernel_rfl
    intro K hK
    go_simp
    refine hK _ _ ?_
    clear hK K
    refine @BigFrame.wpList_want _ _ _ _ _ _ _ ?hw82016 ?_
    case hw82016 => kernel_rfl
    intro K hK
    go_simp
    refine hK _ _ ?_
    clear hK K
    refine @BigFrame.wpList_want _ _ _ _ _ _ _ ?hw82017 ?_
    case hw82017 => kernel_rfl
    intro K hK
    go_simp
    refine hK _ _ ?_
    clear hK K
    rw [HQU.out]
    refine @BigFrame.wpList_want _ _ _ _ _ _ _ ?hw82018 ?_
    case hw82018 => kernel_rfl
    intro K hK
    go_simp
    refine hK _ _ ?_
    clear hK K
    refine @BigFrame.wpList_want _ _ _ _ _ _ _ ?hw82019 ?_
    case hw82019 => kernel_rfl
    intro K hK
    go_simp
    refine hK _ _ ?_
    clear hK K
    refine @BigFrame.wpList_want _ _ _ _ _ _ _ ?hw82020 ?_
    case hw82020 => kernel_rfl
    intro K hK
    go_simp
    refine hK _ _ ?_
    clear hK K
    refine @BigFrame.wpList_want _ _ _ _ _ _ _ ?hw82021 ?_
    case hw82021 => kernel_rfl
    intro K hK
    go_simp
    refine hK _ _ ?_
    clear hK K
    refine @BigFrame.wpList_want _ _ _ _ _ _ _ ?hw82022 ?_
    case hw82022 => kernel_rfl
    intro K hK
    go_simp
    refine hK _ _ ?_
    clear hK K
    clear t0 cl
    go_wp2
    go_loopw [52] (fun s52 wr => ∃ i : Nat, s52 = .int .i64 (i : Int) ∧ Hid (i ≤ sn) ∧ Hid (Gs w0 B tb lb gb nb #[.slice lad n lc, .slice (some ⟨pg, po, none⟩) pn pc] 81 n (M ++ x :: (P[j].loose.take i).map (fun y => 2 * y)) wr)) (fun s52 _ => sn - (RowKit.intOf s52).toNat)
    case atStart => exact ⟨0, rfl, Lib.hid (Nat.zero_le _), G9⟩
    case round =>
     clear G9
     obtain ⟨i, rfl, hi, HU⟩ := hrel
     by_cases hlt : i < sn
     ·have hiL : i < P[j].loose.length := by rw [← HSN.out]; exact hlt
      have hlti : (i : Int) < (sn : Int) := by omega
      have hi0 : ¬ (i : Int) < 0 := by omega
      obtain ⟨hsad, hg, hcell⟩ := HNC.out i hiL
      subst hsad
      obtain ⟨y, hy⟩ : ∃ y, y = P[j].loose[i] := ⟨_, rfl⟩
      obtain ⟨hy0, hy1⟩ := HLO.out _ (List.getElem_mem hiL)
      rw [← hy] at hcell hy0 hy1
      have kwr := HWE.out _ _ HU.out
      have cy := (kwr.cell (p := ⟨ng, no + i, none⟩) hg (Nat.ne_of_lt hg)).trans hcell
      have HWM := Lib.hid (show IntKind.i64.wrap (2 * y) = 2 * y from wrap_small _ (by omega) (by omega))
      obtain ⟨z, hz⟩ : ∃ z, z = 2 * y := ⟨_, rfl⟩
      have HZ := Lib.hid hz
      have HTK := Lib.hid (show M ++ x :: (P[j].loose.take i).map (fun y => 2 * y) ++ [z] = M ++ x :: (P[j].loose.take (i + 1)).map (fun y => 2 * y) by
       rw [List.take_succ_eq_append_getElem hiL, List.map_append, ← hy, hz, List.append_assoc]
       rfl)
      have hML : (M ++ x :: (P[j].loose.take i).map (fun y => 2 * y)).length < 90000 := by
       rw [List.length_append, List.length_cons, List.length_map, List.length_take]
       have := HMM.out
       omega
      obtain ⟨ad, m', c, adn, cn, w9, h9, e9, l9, g9⟩ := HU.out.add z hML
      rw [HTK.out] at g9
      have c0 : wr.cell? ⟨lb, 0, none⟩ = some (.slice ad m' c) := one_cellT h9
      have L9 := Lib.hid l9
      have E9 := Lib.hid e9
      have G9 := Lib.hid g9
      have HLTT := Lib.hid hlt
      clear h9 l9 g9 e9 hML hz hlt hi hiL hg hcell hy hy0 hy1 kwr
      go_upto_region 9 with fail
      refine wp_region_lit ?_
      refine @BigFrame.wpList_want _ _ _ _ _ _ _ ?hw82023 ?_
      case hw82023 => kernel_rfl
      intro K hK
      go_simp
      refine hK _ _ ?_
      clear hK K
      refine @BigFrame.wpList_want _ _ _ _ _ _ _ ?hw82024 ?_
      case hw82024 => kernel_rfl
      intro K hK
      go_simp
      refine hK _ _ ?_
      clear hK K
      refine @BigFrame.wpList_want _ _ _ _ _ _ _ ?hw82025 ?_
      case hw82025 => kernel_rfl
      intro K hK
      go_simp
      refine hK _ _ ?_
      clear hK K
      clear cy
      go_upto_region 10 with fail
      refine wp_region_lit ?_
      refine @wpList_load_known _ _ _ _ _ _ _ ?hw82026 35 (.tmp 2) rfl (lb) (0) rfl (.slice ad m' c) (load_ints c0) ?_
      case hw82026 => kernel_rfl
      simp only [Act.put, List.setIfInBounds_toArray, List.set_cons_zero, List.set_cons_succ]
      refine @BigFrame.wpList_want _ _ _ _ _ _ _ ?hw82027 ?_
      case hw82027 => kernel_rfl
      intro K hK
      go_simp
      refine hK _ _ ?_
      clear hK K
      refine @BigFrame.wpList_want _ _ _ _ _ _ _ ?hw82028 ?_
      case hw82028 => kernel_rfl
      intro K hK
      go_simp
      refine hK _ _ ?_
      clear hK K
      rw [HWM.out, ← HZ.out]
      refine @BigFrame.wpList_want _ _ _ _ _ _ _ ?hw82029 ?_
      case hw82029 => kernel_rfl
      intro K hK
      go_simp
      refine hK _ _ ?_
      clear hK K
      refine wpList_append_known rfl (.tmp 56) (.tmp 59) 35 35 35 rfl rfl (.slice ad m' c) (.slice (some ⟨wr.heap.size, 0, none⟩) 1 1) rfl rfl E9.out ?_
      simp only [Act.put, List.setIfInBounds_toArray, List.set_cons_zero, List.set_cons_succ]
      refine @wpL_store_part _ _ _ _ _ _ _ ?hw82901 35 _ _ rfl lb 0 [.slice ad m' c] 35 (.slice adn (m' + 1) cn) rfl rfl L9.out (Nat.zero_lt_succ _) rfl intsInfo8 ?_
      case hw82901 => kernel_rfl
      simp only [Act.put]
      clear c0 L9 E9
      generalize w9.setCell ⟨lb, 0, none⟩ (.slice adn (m' + 1) cn) = wa2 at G9 ⊢
      go_wp2
      go_roundw
      case rel => exact ⟨i + 1, by simp, Lib.hid HLTT.out, G9⟩
      case measure => have := HLTT.out; simp [RowKit.intOf]; omega
     ·have hnl : ¬ (i : Int) < (sn : Int) := by omega
      have HE := Lib.hid (show P[j].loose.take i = P[j].loose by rw [List.take_of_length_le]; have := hi.out; have := HSN.out; omega)
      rw [HE.out] at HU
      clear hlt hi
      go_wp2
      first
       | (refine bodyPost_ret (results_none rfl _ _ _) rfl ?_; exact ⟨rfl, by rw [HRB.out]; exact HU.out⟩)
       | exact ⟨rfl, .tuple #[], results_none rfl _ _ _, rfl, by rw [HRB.out]; exact HU.out⟩
   | false =>
    have HRB := Lib.hid (show RR = R1 ++ R2 by rw [HRR.out, if_neg (by decide)])
    clear HRR
    have HGF := Lib.hid (fun (u : World) (h : ∃ M', Gs w0 B tb lb gb nb #[.slice lad n lc, .slice (some ⟨pg, po, none⟩) pn pc] 81 n M' u) => load_func8 (one_cellT (h.elim fun _ g => g.gat)))
    have HGN := Lib.hid (fun (u : World) (h : ∃ M', Gs w0 B tb lb gb nb #[.slice lad n lc, .slice (some ⟨pg, po, none⟩) pn pc] 81 n M' u) => load_int (one_cellT (h.elim fun _ g => g.num)))
    go_upto_region 4 with fail
    refine wp_region_noPanic ?_
    refine wp_region_held_drew (S := fun w' => ∃ M', Gs w0 B tb lb gb nb #[.slice lad n lc, .slice (some ⟨pg, po, none⟩) pn pc] 81 n M' w') (by kernel_rfl) ⟨_, HG.out.drew⟩ (fun hH => ?_)
    refine wpAnyH_take_at (i := 0) 30 (.func (.func 50) #[] #[.pointer (some ⟨tb, 0, none⟩), .pointer (some ⟨lb, 0, none⟩), .pointer (some ⟨gb, 0, none⟩), .pointer (some ⟨nb, 0, none⟩)]) rfl rfl (by kernel_rfl) (by kernel_rfl) (by kernel_rfl) (fun _ _ _ h => h) (yieldsIf_load_known (by kernel_rfl) 81 _ rfl (gb) (0) rfl (.func (.func 50) #[] #[.pointer (some ⟨tb, 0, none⟩), .pointer (some ⟨lb, 0, none⟩), .pointer (some ⟨gb, 0, none⟩), .pointer (some ⟨nb, 0, none⟩)]) (fun w' hw' => HGF.out w' hw')) hH ?_
    simp only [List.setIfInBounds_toArray, List.set_cons_zero, List.set_cons_succ]
    refine wpAnyH_take_at (i := 1) 31 (.int .i64 (n : Int)) rfl rfl (by kernel_rfl) (by kernel_rfl) (by kernel_rfl) (fun _ _ _ h => h) (yieldsIf_load_known (by kernel_rfl) 3 _ rfl (nb) (0) rfl (.int .i64 (n : Int)) (fun w' hw' => HGN.out w' hw')) hH ?_
    simp only [List.setIfInBounds_toArray, List.set_cons_zero, List.set_cons_succ]
    refine wpAnyH_take_ex (i := 2) 32 rfl rfl (by kernel_rfl) (by kernel_rfl) (by kernel_rfl) (fun _ _ _ _ h => h) (by kernel_rfl) hH ?_
    apply Exists.intro
    apply And.intro
    ·intro w9 _
     go_simp
     first | done | rfl
    simp only [List.setIfInBounds_toArray, List.set_cons_zero, List.set_cons_succ]
    refine wpAnyH_ready (rs := [3]) (by kernel_rfl) (by simp) ?_
    refine AllReadyH.cons rfl (fun K hK => ?_) AllReadyH.nil
    rw [if_pos (by rfl)]
    go_simp
    go_wp2_with (go_at_call 52; refine (HLE.out _).mono ?_; rintro e wl ⟨rfl, kwl⟩)
    have Gwl := HG.out.drew.kept kwl
    refine hK.out _ _ ⟨_, Gwl⟩ (fun hH => ?_)
    clear hK K
    refine wpAnyH_ready (rs := [4]) (by kernel_rfl) (by simp) ?_
    refine AllReadyH.cons rfl (fun K hK => ?_) AllReadyH.nil
    rw [if_pos (by rfl)]
    go_simp
    go_wp2_with (go_at_call 50; refine (HH1.out _ Gwl).mono ?_; rintro e w4 ⟨rfl, gw4⟩)
    have G4 := Lib.hid gw4
    refine hK.out _ _ ⟨_, gw4⟩ (fun hH => ?_)
    clear hK K
    refine wpAnyH_done (by kernel_rfl) ?_ _
    refine NoPanic.normal ?_
    clear kwl Gwl gw4 hH
    go_upto_region 5 with fail
    refine wp_region_noPanic ?_
    refine wp_region_held_drew (S := fun w' => ∃ M', Gs w0 B tb lb gb nb #[.slice lad n lc, .slice (some ⟨pg, po, none⟩) pn pc] 81 n M' w') (by kernel_rfl) ⟨_, G4.out.drew⟩ (fun hH => ?_)
    refine wpAnyH_take_at (i := 0) 35 (.func (.func 50) #[] #[.pointer (some ⟨tb, 0, none⟩), .pointer (some ⟨lb, 0, none⟩), .pointer (some ⟨gb, 0, none⟩), .pointer (some ⟨nb, 0, none⟩)]) rfl rfl (by kernel_rfl) (by kernel_rfl) (by kernel_rfl) (fun _ _ _ h => h) (yieldsIf_load_known (by kernel_rfl) 81 _ rfl (gb) (0) rfl (.func (.func 50) #[] #[.pointer (some ⟨tb, 0, none⟩), .pointer (some ⟨lb, 0, none⟩), .pointer (some ⟨gb, 0, none⟩), .pointer (some ⟨nb, 0, none⟩)]) (fun w' hw' => HGF.out w' hw')) hH ?_
    simp only [List.setIfInBounds_toArray, List.set_cons_zero, List.set_cons_succ]
    refine wpAnyH_take_at (i := 1) 36 (.int .i64 (n : Int)) rfl rfl (by kernel_rfl) (by kernel_rfl) (by kernel_rfl) (fun _ _ _ h => h) (yieldsIf_load_known (by kernel_rfl) 3 _ rfl (nb) (0) rfl (.int .i64 (n : Int)) (fun w' hw' => HGN.out w' hw')) hH ?_
    simp only [List.setIfInBounds_toArray, List.set_cons_zero, List.set_cons_succ]
    refine wpAnyH_take_ex (i := 2) 37 rfl rfl (by kernel_rfl) (by kernel_rfl) (by kernel_rfl) (fun _ _ _ _ h => h) (by kernel_rfl) hH ?_
    apply Exists.intro
    apply And.intro
    ·intro w9 _
     go_simp
     first | done | rfl
    simp only [List.setIfInBounds_toArray, List.set_cons_zero, List.set_cons_succ]
    refine wpAnyH_ready (rs := [3]) (by kernel_rfl) (by simp) ?_
    refine AllReadyH.cons rfl (fun K hK => ?_) AllReadyH.nil
    rw [if_pos (by rfl)]
    go_simp
    go_wp2_with (go_at_call 53; refine (HRI.out _).mono ?_; rintro e wr ⟨rfl, kwr⟩)
    have Gwr := G4.out.drew.kept kwr
    refine hK.out _ _ ⟨_, Gwr⟩ (fun hH => ?_)
    clear hK K
    refine wpAnyH_ready (rs := [4]) (by kernel_rfl) (by simp) ?_
    refine AllReadyH.cons rfl (fun K hK => ?_) AllReadyH.nil
    rw [if_pos (by rfl)]
    go_simp
    go_wp2_with (go_at_call 50; refine (HH2.out _ Gwr).mono ?_; rintro e w5 ⟨rfl, gw5⟩)
    have G5 := Lib.hid gw5
    refine hK.out _ _ ⟨_, gw5⟩ (fun hH => ?_)
    clear hK K
    refine wpAnyH_done (by kernel_rfl) ?_ _
    refine NoPanic.normal ?_
    clear kwr Gwr gw5 hH
    go_wp2
    refine bodyPost_ret (results_none rfl _ _ _) rfl ?_
    exact ⟨rfl, by rw [HRB.out, ← List.append_assoc]; exact G5.out⟩

end Go.Proofs.YtilpehpiikdkbaaGreatDoor

namespace Go.Proofs.YtilpehpiikdkbaaGreatDoor
open Go.RowKit Go.Lib

set_option maxRecDepth 100000 in
theorem alloc_int9 (w : World) : (Instr.alloc 3 true (.tuple #[])).run Tryz.prog w = .ok (.pointer (some ⟨w.heap.size, 0, none⟩)) (w.alloc (.cells #[.int .i64 0] 3)) := by kernel_rfl
set_option maxRecDepth 100000 in
theorem alloc_ints9 (w : World) : (Instr.alloc 35 true (.tuple #[])).run Tryz.prog w = .ok (.pointer (some ⟨w.heap.size, 0, none⟩)) (w.alloc (.cells #[.slice none 0 0] 35)) := by kernel_rfl
set_option maxRecDepth 100000 in
theorem alloc_func9 (w : World) : (Instr.alloc 81 true (.tuple #[])).run Tryz.prog w = .ok (.pointer (some ⟨w.heap.size, 0, none⟩)) (w.alloc (.cells #[.nilFunc] 81)) := by kernel_rfl
set_option maxRecDepth 100000 in
theorem intInfo9 : (Tryz.prog.info? 3).map (·.size) = some 1 := by kernel_rfl
set_option maxRecDepth 100000 in
theorem funcInfo9 : (Tryz.prog.info? 81).map (·.size) = some 1 := by kernel_rfl

set_option maxRecDepth 100000 in
set_option maxHeartbeats 6400000 in
theorem resolve_none8 (lad pad : Option Addr) (ln lc pn pc : Nat) (la1 la2 : Option Addr) (l1 c1 l2 c2 : Nat) (x : Int) (w : World)
  (hrn : ∀ u, Kept w.heap.size w.heap.size w u → Calls Tryz.prog 47 #[.agg #[.slice lad ln lc, .slice pad pn pc]] u fun e w' => e = .returned (.agg #[.slice la1 l1 c1, .slice la2 l2 c2]) ∧ Kept u.heap.size u.heap.size u w')
  (hnd : ∀ u, Calls Tryz.prog 49 #[.int .i64 (l1 : Int), .int .i64 x] u fun e w' => e = .returned (.bool false) ∧ w' = u) :
  Calls Tryz.prog 16 #[.agg #[.slice lad ln lc, .slice pad pn pc], .int .i64 x] w fun e w' => e = .returned (.slice none 0 0) ∧ Kept w.heap.size w.heap.size w w' := by
 have HRN := Lib.hid hrn
 have HND := Lib.hid hnd
 clear hrn hnd
 have k1 := (Kept.refl w.heap.size w.heap.size w).alloc (Nat.le_refl _) (.cells #[.slice lad ln lc, .slice pad pn pc] 27)
 have t1 := heap_new w (.cells #[.slice lad ln lc, .slice pad pn pc] 27)
 go_enter Tryz.func16, Tryz.ntmps16
 go_upto_region 1 with fail
 generalize w.alloc (.cells #[.slice lad ln lc, .slice pad pn pc] 27) = w1 at k1 t1 ⊢
 obtain ⟨tb, htb⟩ : ∃ tb, tb = w.heap.size := ⟨_, rfl⟩
 rw [← htb] at t1
 (try rw [← htb])
 have HTB := Lib.hid (show w.heap.size ≤ tb by omega)
 have K1 := Lib.hid k1
 have T1 := Lib.hid t1
 clear k1 t1 htb
 refine wp_region_lit ?_
 refine @wpList_load_known _ _ _ _ _ _ _ ?hw82030 27 (.tmp 2) rfl (tb) (0) rfl (.agg #[.slice lad ln lc, .slice pad pn pc]) (run_loadVar_row w1 tb 27 27 _ (0, 0) _ T1.out Tryz.underlying27 rfl treeInfo) ?_
 case hw82030 => kernel_rfl
 simp only [Act.put, List.setIfInBounds_toArray, List.set_cons_zero, List.set_cons_succ]
 refine @BigFrame.wpList_want _ _ _ _ _ _ _ ?hw82031 ?_
 case hw82031 => kernel_rfl
 intro K hK
 go_simp
 go_at_call 47
 refine (HRN.out _ K1.out).mono ?_
 rintro e w2 ⟨rfl, k2⟩
 have K2 := Lib.hid (K1.out.next1 k2)
 have T2 := Lib.hid ((k2.block tb (lt_of_block T1.out) (Nat.ne_of_lt (lt_of_block T1.out))).trans T1.out)
 clear k2
 refine hK _ _ ?_
 clear hK K
 refine wpList_store_row rfl 27 _ _ rfl (tb) #[.slice la1 l1 c1, .slice la2 l2 c2] rfl rfl 27 #[.slice lad ln lc, .slice pad pn pc] T2.out treeInfo rfl (tree_all _ _ _ _ _ _) ?_
 simp only [Act.put]
 have t3 := setRow_heap w2 tb _ #[.slice la1 l1 c1, .slice la2 l2 c2] _ _ T2.out
 have k3 := K2.out.grown (grown_setRow w2 tb #[.slice la1 l1 c1, .slice la2 l2 c2]) K2.out.size (fun k e => by cases e; exact HTB.out)
 generalize w2.setRow tb #[.slice la1 l1 c1, .slice la2 l2 c2] = w3 at t3 k3 ⊢
 have T3 := Lib.hid t3
 have K3 := Lib.hid k3
 clear t3 k3 T1 K1 T2 K2
 have t0 := two_cell0 T3.out
 go_upto_region 2 with fail
 refine wp_region_lit ?_
 refine @BigFrame.wpList_want _ _ _ _ _ _ _ ?hw82032 ?_
 case hw82032 => kernel_rfl
 intro K hK
 go_simp
 refine hK _ _ ?_
 clear hK K
 refine @BigFrame.wpList_want _ _ _ _ _ _ _ ?hw82033 ?_
 case hw82033 => kernel_rfl
 intro K hK
 go_simp
 refine hK _ _ ?_
 clear hK K
 refine @BigFrame.wpList_want _ _ _ _ _ _ _ ?hw82034 ?_
 case hw82034 => kernel_rfl
 intro K hK
 go_simp
 refine hK _ _ ?_
 clear hK K
 refine @wpL_alloc _ _ _ _ _ _ _ _ ?hw82035 3 rfl _ (alloc_int9 _) ?_
 case hw82035 => kernel_rfl
 simp only [Act.put, List.setIfInBounds_toArray, List.set_cons_zero, List.set_cons_succ]
 clear t0
 have k4 := (Kept.refl w3.heap.size w3.heap.size w3).alloc (Nat.le_refl _) (.cells #[.int .i64 0] 3)
 have n4 := heap_new w3 (.cells #[.int .i64 0] 3)
 have t4 := (k4.block tb (lt_of_block T3.out) (Nat.ne_of_lt (lt_of_block T3.out))).trans T3.out
 have HBN := Lib.hid (show tb ≠ w3.heap.size from Nat.ne_of_lt (lt_of_block T3.out))
 have HWN := Lib.hid (show w.heap.size ≤ w3.heap.size from K3.out.size)
 generalize w3.alloc (.cells #[.int .i64 0] 3) = w4 at k4 n4 t4 ⊢
 obtain ⟨nb, hnb⟩ : ∃ n, n = w3.heap.size := ⟨_, rfl⟩
 rw [← hnb] at n4 HBN HWN
 (try rw [← hnb])
 have K4 := Lib.hid (K3.out.next1 k4)
 have N4 := Lib.hid n4
 have T4 := Lib.hid t4
 clear hnb k4 n4 t4 T3 K3
 refine @wpL_store_part _ _ _ _ _ _ _ ?hw82950 3 _ _ rfl nb 0 [.int .i64 0] 3 (.int .i64 (l1 : Int)) rfl rfl N4.out (Nat.zero_lt_succ _) rfl intInfo9 ?_
 case hw82950 => kernel_rfl
 simp only [Act.put]
 have n5 : (w4.setCell ⟨nb, 0, none⟩ (.int .i64 (l1 : Int))).heap[nb]? = some (.cells #[.int .i64 (l1 : Int)] 3 (0, 0)) := by
  have := cells_set (cs := [.int .i64 0]) N4.out 0 (.int .i64 (l1 : Int))
  simpa using this
 have t5 := (setCell_other w4 nb 0 (.int .i64 (l1 : Int)) tb HBN.out).trans T4.out
 have K5 := Lib.hid (K4.out.set (.inr HWN.out) 0 (.int .i64 (l1 : Int)))
 generalize w4.setCell ⟨nb, 0, none⟩ (.int .i64 (l1 : Int)) = w5 at n5 t5 K5 ⊢
 have N5 := Lib.hid n5
 have T5 := Lib.hid t5
 clear n5 t5 N4 T4 K4
 have c0 := one_cellT N5.out
 go_upto_region 3 with fail
 refine wp_region_lit ?_
 refine @BigFrame.wpList_want _ _ _ _ _ _ _ ?hw82036 ?_
 case hw82036 => kernel_rfl
 intro K hK
 go_simp
 refine hK _ _ ?_
 clear hK K
 refine @BigFrame.wpList_want _ _ _ _ _ _ _ ?hw82037 ?_
 case hw82037 => kernel_rfl
 intro K hK
 go_simp
 refine hK _ _ ?_
 clear hK K
 refine @BigFrame.wpList_want _ _ _ _ _ _ _ ?hw82038 ?_
 case hw82038 => kernel_rfl
 intro K hK
 go_simp
 go_at_call 49
 refine (HND.out _).mono ?_
 rintro e wx ⟨rfl, hwx⟩
 subst wx
 refine hK _ _ ?_
 clear hK K
 refine @BigFrame.wpList_want _ _ _ _ _ _ _ ?hw82039 ?_
 case hw82039 => kernel_rfl
 intro K hK
 go_simp
 refine hK _ _ ?_
 clear hK K
 clear c0
 go_wp2
 go_ret
 exact ⟨rfl, K5.out⟩

set_option maxRecDepth 100000 in
set_option maxHeartbeats 6400000 in
theorem resolve_calls8 (lv pv : Value) (L : List Lf) (P : List Pr) (x : Nat) (w : World) (hL : Lvs w lv L) (hP : Pts w pv P) (hr : Tt.right L P = true) (hx : Bo.In 0 L.length x) :
  Calls Tryz.prog 16 #[.agg #[lv, pv], .int .i64 (x : Int)] w fun e w' => ∃ v, e = .returned v ∧ Ints w' w.heap.size v (Tt.resNode L P x) ∧ Kept w.heap.size w.heap.size w w' := by
 have hF := Tt.fine_of hr
 have h64 := hF.n64
 have HRN := Lib.hid (fun (u : World) (k : Kept w.heap.size w.heap.size w u) => rightornone8 lv pv L P u (hL.kept k) (hP.kept k) (Nat.le_trans hF.n64 (by decide)) (by have := hF.n64; have := hF.par; omega) hF.len hr)
 have HND := Lib.hid (fun u => isnode8_yes L.length (x : Int) hF.n64 (by obtain ⟨h1, h2⟩ := hx; omega) u)
 obtain ⟨a, m, p, b, h1, h2, h3, h4, h5⟩ := Bo.seg_of hx hF.n64
 have hres : Tt.resNode L P x = Tt.resSeg L P L.length a m := by unfold Tt.resNode; rw [h3]
 rw [hres]
 obtain ⟨lad, lc, rfl⟩ := hL.shape
 obtain ⟨pad, pc, rfl⟩ := hP.shape
 have HGC := Lib.hid (fun (w0 : World) (B tb lb gb nb : Nat) (hWe : ∀ M u, Gs w0 B tb lb gb nb #[.slice lad L.length lc, .slice pad P.length pc] 81 L.length M u → Kept w.heap.size w.heap.size w u) (u : World) (g : Gs w0 B tb lb gb nb #[.slice lad L.length lc, .slice pad P.length pc] 81 L.length [] u) =>
  gather_calls L P hF L.length P.length rfl rfl hx.1 lad pad lc pc w hL hP w0 B tb lb gb nb hWe L.length a m p b (by omega) h1 [] u (by rw [List.length_nil]; omega) g)
 rw [h2] at HGC
 obtain ⟨ln, hln⟩ : ∃ ln, ln = L.length := ⟨_, rfl⟩
 obtain ⟨pn, hpn⟩ : ∃ pn, pn = P.length := ⟨_, rfl⟩
 obtain ⟨RS, hRS⟩ : ∃ R, R = Tt.resSeg L P L.length a m := ⟨_, rfl⟩
 rw [← hRS] at HGC ⊢
 rw [← hln, ← hpn] at HRN HGC ⊢
 rw [← hln] at HND
 have hmf : ∀ (fn : Fn) (first cap : Array Value) (w : World), (Instr.makeFunc fn first cap).run Tryz.prog w = .ok (.func fn first cap) w := fun _ _ _ _ => rfl
 clear hL hP hr hx hF h64 h1 h2 h3 h4 h5 hres hln hpn hRS
 have k1 := (Kept.refl w.heap.size w.heap.size w).alloc (Nat.le_refl _) (.cells #[.slice lad ln lc, .slice pad pn pc] 27)
 have t1 := heap_new w (.cells #[.slice lad ln lc, .slice pad pn pc] 27)
 go_enter Tryz.func16, Tryz.ntmps16
 go_upto_region 1 with fail
 generalize w.alloc (.cells #[.slice lad ln lc, .slice pad pn pc] 27) = w1 at k1 t1 ⊢
 obtain ⟨tb, htb⟩ : ∃ tb, tb = w.heap.size := ⟨_, rfl⟩
 rw [← htb] at t1
 (try rw [← htb])
 have HTB := Lib.hid (show w.heap.size ≤ tb by omega)
 have K1 := Lib.hid k1
 have T1 := Lib.hid t1
 clear k1 t1 htb
 refine wp_region_lit ?_
 refine @wpList_load_known _ _ _ _ _ _ _ ?hw82040 27 (.tmp 2) rfl (tb) (0) rfl (.agg #[.slice lad ln lc, .slice pad pn pc]) (run_loadVar_row w1 tb 27 27 _ (0, 0) _ T1.out Tryz.underlying27 rfl treeInfo) ?_
 case hw82040 => kernel_rfl
 simp only [Act.put, List.setIfInBounds_toArray, List.set_cons_zero, List.set_cons_succ]
 refine @BigFrame.wpList_want _ _ _ _ _ _ _ ?hw82041 ?_
 case hw82041 => kernel_rfl
 intro K hK
 go_simp
 go_at_call 47
 refine (HRN.out _ K1.out).mono ?_
 rintro e w2 ⟨rfl, k2⟩
 have K2 := Lib.hid (K1.out.next1 k2)
 have T2 := Lib.hid ((k2.block tb (lt_of_block T1.out) (Nat.ne_of_lt (lt_of_block T1.out))).trans T1.out)
 clear k2
 refine hK _ _ ?_
 clear hK K
 refine wpList_store_row rfl 27 _ _ rfl (tb) #[.slice lad ln lc, .slice pad pn pc] rfl rfl 27 #[.slice lad ln lc, .slice pad pn pc] T2.out treeInfo rfl (tree_all _ _ _ _ _ _) ?_
 simp only [Act.put]
 have t3 := setRow_heap w2 tb _ #[.slice lad ln lc, .slice pad pn pc] _ _ T2.out
 have k3 := K2.out.grown (grown_setRow w2 tb #[.slice lad ln lc, .slice pad pn pc]) K2.out.size (fun k e => by cases e; exact HTB.out)
 generalize w2.setRow tb #[.slice lad ln lc, .slice pad pn pc] = w3 at t3 k3 ⊢
 have T3 := Lib.hid t3
 have K3 := Lib.hid k3
 clear t3 k3 T1 K1 T2 K2
 have t0 := two_cell0 T3.out
 go_upto_region 2 with fail
 refine wp_region_lit ?_
 refine @BigFrame.wpList_want _ _ _ _ _ _ _ ?hw82042 ?_
 case hw82042 => kernel_rfl
 intro K hK
 go_simp
 refine hK _ _ ?_
 clear hK K
 refine @BigFrame.wpList_want _ _ _ _ _ _ _ ?hw82043 ?_
 case hw82043 => kernel_rfl
 intro K hK
 go_simp
 refine hK _ _ ?_
 clear hK K
 refine @BigFrame.wpList_want _ _ _ _ _ _ _ ?hw82044 ?_
 case hw82044 => kernel_rfl
 intro K hK
 go_simp
 refine hK _ _ ?_
 clear hK K
 refine @wpL_alloc _ _ _ _ _ _ _ _ ?hw82045 3 rfl _ (alloc_int9 _) ?_
 case hw82045 => kernel_rfl
 simp only [Act.put, List.setIfInBounds_toArray, List.set_cons_zero, List.set_cons_succ]
 clear t0
 have k4 := (Kept.refl w3.heap.size w3.heap.size w3).alloc (Nat.le_refl _) (.cells #[.int .i64 0] 3)
 have n4 := heap_new w3 (.cells #[.int .i64 0] 3)
 have t4 := (k4.block tb (lt_of_block T3.out) (Nat.ne_of_lt (lt_of_block T3.out))).trans T3.out
 have HBN := Lib.hid (show tb ≠ w3.heap.size from Nat.ne_of_lt (lt_of_block T3.out))
 have HWN := Lib.hid (show w.heap.size ≤ w3.heap.size from K3.out.size)
 generalize w3.alloc (.cells #[.int .i64 0] 3) = w4 at k4 n4 t4 ⊢
 obtain ⟨nb, hnb⟩ : ∃ n, n = w3.heap.size := ⟨_, rfl⟩
 rw [← hnb] at n4 HBN HWN
 (try rw [← hnb])
 have K4 := Lib.hid (K3.out.next1 k4)
 have N4 := Lib.hid n4
 have T4 := Lib.hid t4
 clear hnb k4 n4 t4 T3 K3
 refine @wpL_store_part _ _ _ _ _ _ _ ?hw82950 3 _ _ rfl nb 0 [.int .i64 0] 3 (.int .i64 (ln : Int)) rfl rfl N4.out (Nat.zero_lt_succ _) rfl intInfo9 ?_
 case hw82950 => kernel_rfl
 simp only [Act.put]
 have n5 : (w4.setCell ⟨nb, 0, none⟩ (.int .i64 (ln : Int))).heap[nb]? = some (.cells #[.int .i64 (ln : Int)] 3 (0, 0)) := by
  have := cells_set (cs := [.int .i64 0]) N4.out 0 (.int .i64 (ln : Int))
  simpa using this
 have t5 := (setCell_other w4 nb 0 (.int .i64 (ln : Int)) tb HBN.out).trans T4.out
 have K5 := Lib.hid (K4.out.set (.inr HWN.out) 0 (.int .i64 (ln : Int)))
 generalize w4.setCell ⟨nb, 0, none⟩ (.int .i64 (ln : Int)) = w5 at n5 t5 K5 ⊢
 have N5 := Lib.hid n5
 have T5 := Lib.hid t5
 clear n5 t5 N4 T4 K4
 have c0 := one_cellT N5.out
 go_upto_region 3 with fail
 refine wp_region_lit ?_
 refine @BigFrame.wpList_want _ _ _ _ _ _ _ ?hw82046 ?_
 case hw82046 => kernel_rfl
 intro K hK
 go_simp
 refine hK _ _ ?_
 clear hK K
 refine @BigFrame.wpList_want _ _ _ _ _ _ _ ?hw82047 ?_
 case hw82047 => kernel_rfl
 intro K hK
 go_simp
 refine hK _ _ ?_
 clear hK K
 refine @BigFrame.wpList_want _ _ _ _ _ _ _ ?hw82048 ?_
 case hw82048 => kernel_rfl
 intro K hK
 go_simp
 go_at_call 49
 refine (HND.out _).mono ?_
 rintro e wx ⟨rfl, hwx⟩
 subst wx
 refine hK _ _ ?_
 clear hK K
 refine @BigFrame.wpList_want _ _ _ _ _ _ _ ?hw82049 ?_
 case hw82049 => kernel_rfl
 intro K hK
 go_simp
 refine hK _ _ ?_
 clear hK K
 clear c0
 go_upto_region 5 with fail
 refine wp_region_lit ?_
 refine @wpL_alloc _ _ _ _ _ _ _ _ ?hw82050 35 rfl _ (alloc_ints9 _) ?_
 case hw82050 => kernel_rfl
 simp only [Act.put, List.setIfInBounds_toArray, List.set_cons_zero, List.set_cons_succ]
 have k6 := (Kept.refl w5.heap.size w5.heap.size w5).alloc (Nat.le_refl _) (.cells #[.slice none 0 0] 35)
 have l6 := heap_new w5 (.cells #[.slice none 0 0] 35)
 have n6 := (k6.block nb (lt_of_block N5.out) (Nat.ne_of_lt (lt_of_block N5.out))).trans N5.out
 have t6 := (k6.block tb (lt_of_block T5.out) (Nat.ne_of_lt (lt_of_block T5.out))).trans T5.out
 have HL6 := Lib.hid (show tb ≠ w5.heap.size ∧ nb ≠ w5.heap.size ∧ w.heap.size ≤ w5.heap.size from ⟨Nat.ne_of_lt (lt_of_block T5.out), Nat.ne_of_lt (lt_of_block N5.out), K5.out.size⟩)
 have K6 := Lib.hid (K5.out.next1 k6)
 generalize w5.alloc (.cells #[.slice none 0 0] 35) = w6 at l6 n6 t6 K6 ⊢
 obtain ⟨lb, hlb⟩ : ∃ n, n = w5.heap.size := ⟨_, rfl⟩
 rw [← hlb] at l6 HL6
 (try rw [← hlb])
 have L6 := Lib.hid l6
 have N6 := Lib.hid n6
 have T6 := Lib.hid t6
 clear hlb k6 l6 n6 t6 N5 T5 K5
 go_upto_region 6 with fail
 refine wp_region_lit ?_
 refine @wpL_alloc _ _ _ _ _ _ _ _ ?hw82051 81 rfl _ (alloc_func9 _) ?_
 case hw82051 => kernel_rfl
 simp only [Act.put, List.setIfInBounds_toArray, List.set_cons_zero, List.set_cons_succ]
 have k7 := (Kept.refl w6.heap.size w6.heap.size w6).alloc (Nat.le_refl _) (.cells #[.nilFunc] 81)
 have g7 := heap_new w6 (.cells #[.nilFunc] 81)
 have l7 := (k7.block lb (lt_of_block L6.out) (Nat.ne_of_lt (lt_of_block L6.out))).trans L6.out
 have n7 := (k7.block nb (lt_of_block N6.out) (Nat.ne_of_lt (lt_of_block N6.out))).trans N6.out
 have t7 := (k7.block tb (lt_of_block T6.out) (Nat.ne_of_lt (lt_of_block T6.out))).trans T6.out
 have HG7 := Lib.hid (show tb ≠ w6.heap.size ∧ nb ≠ w6.heap.size ∧ lb ≠ w6.heap.size ∧ w.heap.size ≤ w6.heap.size from ⟨Nat.ne_of_lt (lt_of_block T6.out), Nat.ne_of_lt (lt_of_block N6.out), Nat.ne_of_lt (lt_of_block L6.out), K6.out.size⟩)
 have K7 := Lib.hid (K6.out.next1 k7)
 generalize w6.alloc (.cells #[.nilFunc] 81) = w7 at g7 l7 n7 t7 K7 ⊢
 obtain ⟨gb, hgb⟩ : ∃ n, n = w6.heap.size := ⟨_, rfl⟩
 rw [← hgb] at g7 HG7
 (try rw [← hgb])
 have G7 := Lib.hid g7
 have L7 := Lib.hid l7
 have N7 := Lib.hid n7
 have T7 := Lib.hid t7
 clear hgb k7 g7 l7 n7 t7 L6 N6 T6 K6
 go_upto_region 7 with fail
 refine wp_region_lit ?_
 refine @BigFrame.wpList_want _ _ _ _ _ _ _ ?hw82052 ?_
 case hw82052 => kernel_rfl
 intro K hK
 go_simp
 refine hK _ _ ?_
 clear hK K
 refine @wpL_store_part _ _ _ _ _ _ _ ?hw82960 81 _ _ rfl gb 0 [.nilFunc] 81 (.func (.func 50) #[] #[.pointer (some ⟨tb, 0, none⟩), .pointer (some ⟨lb, 0, none⟩), .pointer (some ⟨gb, 0, none⟩), .pointer (some ⟨nb, 0, none⟩)]) rfl rfl G7.out (Nat.zero_lt_succ _) rfl funcInfo9 ?_
 case hw82960 => kernel_rfl
 simp only [Act.put]
 have g8 : (w7.setCell ⟨gb, 0, none⟩ (.func (.func 50) #[] #[.pointer (some ⟨tb, 0, none⟩), .pointer (some ⟨lb, 0, none⟩), .pointer (some ⟨gb, 0, none⟩), .pointer (some ⟨nb, 0, none⟩)])).heap[gb]? = some (.cells #[.func (.func 50) #[] #[.pointer (some ⟨tb, 0, none⟩), .pointer (some ⟨lb, 0, none⟩), .pointer (some ⟨gb, 0, none⟩), .pointer (some ⟨nb, 0, none⟩)]] 81 (0, 0)) := by
  have := cells_set (cs := [.nilFunc]) G7.out 0 (.func (.func 50) #[] #[.pointer (some ⟨tb, 0, none⟩), .pointer (some ⟨lb, 0, none⟩), .pointer (some ⟨gb, 0, none⟩), .pointer (some ⟨nb, 0, none⟩)])
  simpa using this
 have l8 := (setCell_other w7 gb 0 (.func (.func 50) #[] #[.pointer (some ⟨tb, 0, none⟩), .pointer (some ⟨lb, 0, none⟩), .pointer (some ⟨gb, 0, none⟩), .pointer (some ⟨nb, 0, none⟩)]) lb HG7.out.2.2.1).trans L7.out
 have n8 := (setCell_other w7 gb 0 (.func (.func 50) #[] #[.pointer (some ⟨tb, 0, none⟩), .pointer (some ⟨lb, 0, none⟩), .pointer (some ⟨gb, 0, none⟩), .pointer (some ⟨nb, 0, none⟩)]) nb HG7.out.2.1).trans N7.out
 have t8 := (setCell_other w7 gb 0 (.func (.func 50) #[] #[.pointer (some ⟨tb, 0, none⟩), .pointer (some ⟨lb, 0, none⟩), .pointer (some ⟨gb, 0, none⟩), .pointer (some ⟨nb, 0, none⟩)]) tb HG7.out.1).trans T7.out
 have K8 := Lib.hid (K7.out.set (.inr HG7.out.2.2.2) 0 (.func (.func 50) #[] #[.pointer (some ⟨tb, 0, none⟩), .pointer (some ⟨lb, 0, none⟩), .pointer (some ⟨gb, 0, none⟩), .pointer (some ⟨nb, 0, none⟩)]))
 generalize w7.setCell ⟨gb, 0, none⟩ (.func (.func 50) #[] #[.pointer (some ⟨tb, 0, none⟩), .pointer (some ⟨lb, 0, none⟩), .pointer (some ⟨gb, 0, none⟩), .pointer (some ⟨nb, 0, none⟩)]) = w8 at g8 l8 n8 t8 K8 ⊢
 clear G7 L7 N7 T7 K7
 have HGS : Hid (Gs w8 w8.heap.size tb lb gb nb #[.slice lad ln lc, .slice pad pn pc] 81 ln [] w8) := Lib.hid
  ⟨Kept.refl _ _ _, Nat.le_refl _, t8, g8, n8, ⟨_, l8, ints_none _ _⟩, lt_of_block t8, lt_of_block l8, lt_of_block g8, lt_of_block n8, HL6.out.1, Ne.symm HG7.out.2.2.1, HL6.out.2.1⟩
 have HWE : Hid (∀ M u, Gs w8 w8.heap.size tb lb gb nb #[.slice lad ln lc, .slice pad pn pc] 81 ln M u → Kept w.heap.size w.heap.size w u) := Lib.hid (fun M u g => K8.out.trans (g.kp.mono K8.out.size (fun i hi _ => by have := HL6.out.2.2; omega)))
 have c0 := one_cellT g8
 clear g8 l8 n8 t8
 go_upto_region 8 with fail
 refine wp_region_lit ?_
 refine @wpList_load_known _ _ _ _ _ _ _ ?hw82053 81 (.tmp 7) rfl (gb) (0) rfl (.func (.func 50) #[] #[.pointer (some ⟨tb, 0, none⟩), .pointer (some ⟨lb, 0, none⟩), .pointer (some ⟨gb, 0, none⟩), .pointer (some ⟨nb, 0, none⟩)]) (load_func8 c0) ?_
 case hw82053 => kernel_rfl
 simp only [Act.put, List.setIfInBounds_toArray, List.set_cons_zero, List.set_cons_succ]
 refine @BigFrame.wpList_want _ _ _ _ _ _ _ ?hw82054 ?_
 case hw82054 => kernel_rfl
 intro K hK
 go_simp
 refine hK _ _ ?_
 clear hK K
 refine @BigFrame.wpList_want _ _ _ _ _ _ _ ?hw82055 ?_
 case hw82055 => kernel_rfl
 intro K hK
 go_simp
 go_at_call 50
 refine (HGC.out _ _ _ _ _ _ HWE.out _ HGS.out).mono ?_
 rintro e w9 ⟨rfl, g9⟩
 rw [List.nil_append] at g9
 have G9 := Lib.hid g9
 clear g9
 refine hK _ _ ?_
 clear hK K
 clear c0
 have hkw := HWE.out _ _ G9.out
 obtain ⟨v9, hl9, i9⟩ := G9.out.lst
 obtain ⟨va, vc, rfl⟩ := (ints_nums i9).shape
 have c9 := one_cellT hl9
 have I9 := Lib.hid (ints_more i9 K8.out.size)
 have KW := Lib.hid hkw
 obtain ⟨vn, hvn⟩ : ∃ n, n = RS.length := ⟨_, rfl⟩
 rw [← hvn] at c9 I9
 clear hkw hl9 i9 hvn
 go_upto_region 9 with fail
 refine wp_region_lit ?_
 refine @wpList_load_known _ _ _ _ _ _ _ ?hw82056 35 (.tmp 6) rfl (lb) (0) rfl (.slice va vn vc) (load_ints c9) ?_
 case hw82056 => kernel_rfl
 simp only [Act.put, List.setIfInBounds_toArray, List.set_cons_zero, List.set_cons_succ]
 refine @BigFrame.wpList_want _ _ _ _ _ _ _ ?hw82057 ?_
 case hw82057 => kernel_rfl
 intro K hK
 go_simp
 refine hK _ _ ?_
 clear hK K
 clear c9
 go_wp2
 go_ret
 exact ⟨_, rfl, I9.out, KW.out⟩

end Go.Proofs.YtilpehpiikdkbaaGreatDoor

namespace Go.Proofs.YtilpehpiikdkbaaGreatDoor
open Go.RowKit Go.Lib

set_option maxRecDepth 100000 in
set_option maxHeartbeats 1600000 in
theorem same_long8 (v1 v2 : Value) (b1 b2 : Nat) (L M : List Int) (w : World) (h1 : Ints w b1 v1 L) (h2 : Ints w b2 v2 M) (hL : L.length ≤ 80000) : Calls Tryz.prog 22 #[v1, v2] w fun e w' => e = .returned (.bool (L == M)) ∧ Kept w.heap.size w.heap.size w w' := by
 obtain ⟨g1, c1, hv1⟩ := h1.len
 obtain ⟨g2, c2, hv2⟩ := h2.len
 have HC := Lib.hid (fun k (hk : k < L.length) => h1.at hk)
 have MC := Lib.hid (fun k (hk : k < M.length) => h2.at hk)
 subst hv1 hv2
 clear h1 h2
 go_enter Tryz.func22, Tryz.ntmps22
 by_cases hlen : L.length = M.length
 ·have hd : ((L.length : Int) != (M.length : Int)) = false := by rw [bne_eq_false_iff_eq, hlen]
  have HLE := Lib.hid hlen
  have hL2 : (L.length : Int) ≤ 80000 := by omega
  clear hlen
  go_wp2_with fail
  go_loopw [5] (fun i w9 => ∃ k : Nat, k ≤ L.length ∧ i = .int .i64 (k : Int) ∧ Hid (L.take k = M.take k) ∧ Hid (Kept w.heap.size w.heap.size w w9)) (fun i _ => L.length - (RowKit.intOf i).toNat)
  case atStart => exact ⟨0, by omega, rfl, Lib.hid (by simp), Lib.hid (Kept.refl _ _ _)⟩
  case round =>
   obtain ⟨k, hk, rfl, hno, hK⟩ := hrel
   by_cases hlt : k < L.length
   ·have hltm : k < M.length := by rw [← HLE.out]; exact hlt
    obtain ⟨gl, cl, hl1, hl2⟩ := HC.out k hlt
    obtain ⟨gm, cm, hm1, hm2⟩ := MC.out k hltm
    obtain ⟨rfl, rfl⟩ : g1 = some ⟨gl, 0, none⟩ ∧ c1 = cl := by simpa using hl1
    obtain ⟨rfl, rfl⟩ : g2 = some ⟨gm, 0, none⟩ ∧ c2 = cm := by simpa using hm1
    have hln : (k : Int) < (L.length : Int) := by omega
    have hlm : (k : Int) < (M.length : Int) := by omega
    have hk0 : ¬ (k : Int) < 0 := by omega
    have cl' : wr.cell? ⟨gl, k, none⟩ = some (.int .i64 L[k]) := (hK.out.cell (p := ⟨gl, k, none⟩) (World.block_lt_of_cell? _ _ hl2) (Nat.ne_of_lt (World.block_lt_of_cell? _ _ hl2))).trans hl2
    have cm' : wr.cell? ⟨gm, k, none⟩ = some (.int .i64 M[k]) := (hK.out.cell (p := ⟨gm, k, none⟩) (World.block_lt_of_cell? _ _ hm2) (Nat.ne_of_lt (World.block_lt_of_cell? _ _ hm2))).trans hm2
    have hmore : L[k] = M[k] → L.take (k + 1) = M.take (k + 1) := fun e => by
     rw [List.take_succ_eq_append_getElem hlt, List.take_succ_eq_append_getElem hltm, hno.out, e]
    have hfound : L[k] ≠ M[k] → (L == M) = false := fun e => by
     rw [beq_eq_false_iff_ne]
     intro h
     exact e (by subst h; rfl)
    generalize L[k] = X at cl' hmore hfound
    generalize M[k] = Y at cm' hmore hfound
    have Hmore := Lib.hid hmore
    have Hfound := Lib.hid hfound
    have HKK := Lib.hid hK.out.drew
    clear hmore hfound hl1 hl2 hm1 hm2
    go_upto_region 6 with fail
    go_region
    generalize hB : (X != Y) = B
    have HB := Lib.hid hB
    clear hB
    cases B
    ·have he : X = Y := by simpa using HB.out
     have HM := Lib.hid (Hmore.out he)
     clear he
     go_wp2
     go_roundw
     case rel => exact ⟨k + 1, by omega, by simp, HM, HKK⟩
     case measure => simp [RowKit.intOf]; omega
    ·have he : X ≠ Y := by simpa using HB.out
     have HM := Lib.hid (Hfound.out he)
     clear he
     go_wp2
     go_ret
     exact ⟨by rw [HM.out]; rfl, HKK.out⟩
   ·have hkl : k = L.length := by omega
    have hln : ¬ (k : Int) < (L.length : Int) := by omega
    have hE : (L == M) = true := by
     have h3 := hno.out
     rw [hkl, List.take_of_length_le (Nat.le_refl _), List.take_of_length_le (by rw [← HLE.out]; exact Nat.le_refl _)] at h3
     simp [h3]
    have HE := Lib.hid hE
    clear hE hkl
    go_wp2
    go_ret
    exact ⟨by rw [HE.out]; rfl, hK.out⟩
 ·have hd : ((L.length : Int) != (M.length : Int)) = true := by simp; omega
  have hE : (L == M) = false := by
   rw [beq_eq_false_iff_ne]
   intro e
   exact hlen (by rw [e])
  have HE := Lib.hid hE
  clear hE hlen
  go_wp2_with fail
  go_ret
  exact ⟨by rw [HE.out]; rfl, Kept.refl _ _ _⟩
set_option maxRecDepth 100000 in
set_option maxHeartbeats 6400000 in
theorem names_bad8 (lv pv : Value) (L0 : List Lf) (P : List Pr) (w : World) (hL : Lvs w lv L0) (hP : Pts w pv P) (hn : L0.length ≤ 1000) (hp : P.length ≤ 1000) (hpl : ∀ p ∈ P, p.loose.length ≤ 1000) (hr : Tt.right L0 P = false) :
  Calls Tryz.prog 15 #[.agg #[lv, pv]] w fun e w' => ∃ v, e = .returned v ∧ Ints w' w.heap.size v (sortI (Tt.names ([] : List Lf))) ∧ Kept w.heap.size w.heap.size w w' := by
 have HRN := Lib.hid (fun (x : World) (k : Kept w.heap.size w.heap.size w x) => rightornone_bad lv pv L0 P x (hL.kept k) (hP.kept k) hn hp hpl hr)
 obtain ⟨pad0, pc0, rfl⟩ := hP.shape
 obtain ⟨lad0, lc0, rfl⟩ := hL.shape
 obtain ⟨ln0, hln0⟩ : ∃ ln, ln = L0.length := ⟨_, rfl⟩
 obtain ⟨pn0, hpn0⟩ : ∃ pn, pn = P.length := ⟨_, rfl⟩
 rw [← hln0, ← hpn0] at HRN ⊢
 obtain ⟨L, hLL⟩ : ∃ L : List Lf, L = [] := ⟨_, rfl⟩
 obtain ⟨ln, hln⟩ : ∃ ln, ln = L.length := ⟨_, rfl⟩
 obtain ⟨lad, hlad⟩ : ∃ a : Option Addr, a = none := ⟨_, rfl⟩
 obtain ⟨lc, hlc⟩ : ∃ n : Nat, n = 0 := ⟨_, rfl⟩
 obtain ⟨lg, hlg⟩ : ∃ n : Nat, n = 0 := ⟨_, rfl⟩
 obtain ⟨lo, hlo⟩ : ∃ n : Nat, n = 0 := ⟨_, rfl⟩
 have hz : ln = 0 := by rw [hln, hLL]; rfl
 rw [show (Value.agg #[.slice none 0 0, .slice none 0 0]) = .agg #[.slice lad ln lc, .slice none 0 0] by rw [hlad, hz, hlc]] at HRN
 have hc : ∀ i (hi : i < L.length), lad = some ⟨lg, lo, none⟩ ∧ lg < w.heap.size ∧ L[i].Ok ∧ w.rangeAt lg (lo + i * 97) L[i].cells := fun i hi => by rw [hLL] at hi; cases hi
 rw [← hLL]
 have hln9 : (ln : Int) ≤ 1000 := by omega
 have HLN := Lib.hid hln
 have HC := Lib.hid hc
 have HNL := Lib.hid (fun i => Nat.le_trans (Tt.names_length (L.take i)) (show (L.take i).length ≤ 1000 by rw [List.length_take]; omega))
 clear hL hP hn hp hpl hr hln hln0 hpn0 hc hLL hlad hlc hlg hlo hz
 have k1 := (Kept.refl w.heap.size w.heap.size w).alloc (Nat.le_refl _) (.cells #[.slice lad0 ln0 lc0, .slice pad0 pn0 pc0] 27)
 have t1 := heap_new w (.cells #[.slice lad0 ln0 lc0, .slice pad0 pn0 pc0] 27)
 go_enter Tryz.func15, Tryz.ntmps15
 go_upto_region 2 with fail
 generalize w.alloc (.cells #[.slice lad0 ln0 lc0, .slice pad0 pn0 pc0] 27) = w1 at k1 t1 ⊢
 obtain ⟨tb, htb⟩ : ∃ tb, tb = w.heap.size := ⟨_, rfl⟩
 rw [← htb] at t1
 (try rw [← htb])
 have K1 := Lib.hid k1
 have T1 := Lib.hid t1
 clear k1 t1 htb
 refine wp_region_lit ?_
 refine @wpList_load_known _ _ _ _ _ _ _ ?hw37006 27 (.tmp 1) rfl (tb) (0) rfl (.agg #[.slice lad0 ln0 lc0, .slice pad0 pn0 pc0]) (run_loadVar_row w1 tb 27 27 _ (0, 0) _ T1.out Tryz.underlying27 rfl treeInfo) ?_
 case hw37006 => kernel_rfl
 simp only [Act.put, List.setIfInBounds_toArray, List.set_cons_zero, List.set_cons_succ]
 refine @BigFrame.wpList_want _ _ _ _ _ _ _ ?hw37005 ?_
 case hw37005 => kernel_rfl
 intro K hK
 go_simp
 go_at_call 47
 refine (HRN.out _ K1.out).mono ?_
 rintro e w2 ⟨rfl, k2⟩
 have K2 := Lib.hid (K1.out.next1 k2)
 clear k2
 refine hK _ _ ?_
 clear hK K
 refine @BigFrame.wpList_want _ _ _ _ _ _ _ ?hw37007 ?_
 case hw37007 => kernel_rfl
 intro K hK
 go_simp
 refine hK _ _ ?_
 clear hK K
 refine @BigFrame.wpList_want _ _ _ _ _ _ _ ?hw37008 ?_
 case hw37008 => kernel_rfl
 intro K hK
 go_simp
 refine hK _ _ ?_
 clear hK K
 refine @BigFrame.wpList_want _ _ _ _ _ _ _ ?hw37009 ?_
 case hw37009 => kernel_rfl
 intro K hK
 go_simp
 refine hK _ _ ?_
 clear hK K
 go_wp2
 have I2 := Lib.hid (show Ints w2 w.heap.size (.slice none 0 0) (Tt.names (L.take 0)) from World.ownsRow_nil _ _ _ _)
 go_loopw [3, 10] (fun s3 s10 wr => ∃ i : Nat, ∃ v, s3 = v ∧ s10 = .int .i64 (i : Int) ∧ Hid (i ≤ ln) ∧ Hid (Kept w.heap.size w.heap.size w wr) ∧ Hid (Ints wr w.heap.size v (Tt.names (L.take i)))) (fun _ s10 _ => ln - (RowKit.intOf s10).toNat)
 case atStart => exact ⟨0, _, rfl, rfl, Lib.hid (Nat.zero_le _), K2, I2⟩
 case round =>
  obtain ⟨i, v, rfl, rfl, hi, HK, HI⟩ := hrel
  obtain ⟨vad, vc, hv⟩ := (ints_nums HI.out).shape
  subst hv
  obtain ⟨vn, hvn⟩ : ∃ vn, vn = (Tt.names (L.take i)).length := ⟨_, rfl⟩
  rw [← hvn] at HI ⊢
  have HVN := Lib.hid hvn
  clear hvn
  by_cases hlt : i < ln
  ·have hiL : i < L.length := by rw [← HLN.out]; exact hlt
   obtain ⟨rfl, hg, hok, hrg⟩ := HC.out i hiL
   have hlti : (i : Int) < (ln : Int) := by omega
   have hi0 : ¬ (i : Int) < 0 := by omega
   have HLD := Lib.hid (run_loadVar_mid wr lg (lo + i * 97) 48 L[i].cells _ (rangeAt_kept HK.out hrg hg (Nat.ne_of_lt hg)) Tryz.underlying48 rfl (by have := leafInfo (Lf.size hok); simpa using this))
   have HNX := Lib.hid (show Tt.names (L.take (i + 1)) = if L[i].name == 0 then Tt.names (L.take i) else Tt.names (L.take i) ++ [L[i].name] by rw [List.take_succ_eq_append_getElem hiL, Tt.names_snoc])
   have HIB := Lib.hid (isblank_calls L[i])
   have hlsz := Lf.size hok
   have hlal := L[i].all
   have hD0 := L[i].at_name
   obtain ⟨D, hD⟩ : ∃ D, D = L[i].cells.toArray := ⟨_, rfl⟩
   obtain ⟨nm, hN⟩ : ∃ nm, nm = L[i].name := ⟨_, rfl⟩
   rw [← hD, ← hN] at HIB
   rw [← hD] at HLD hlsz hlal
   rw [← hD, ← hN] at hD0
   rw [← hN] at HNX
   have HSZ := Lib.hid hlsz
   have HAL := Lib.hid hlal
   have HLT := Lib.hid hlt
   clear hlt hi hiL hg hok hrg hlsz hlal hD hN
   go_upto_region 4 with fail
   refine wp_region_lit ?_
   refine @BigFrame.wpList_want _ _ _ _ _ _ _ ?hw37010 ?_
   case hw37010 => kernel_rfl
   intro K hK
   go_simp
   refine hK _ _ ?_
   clear hK K
   refine @wpList_load_known _ _ _ _ _ _ _ ?hw37011 48 (.tmp 12) rfl (lg) (lo + i * 97) rfl (.agg D) (HLD.out) ?_
   case hw37011 => kernel_rfl
   simp only [Act.put, List.setIfInBounds_toArray, List.set_cons_zero, List.set_cons_succ]
   refine @wpL_alloc _ _ _ _ _ _ _ _ ?hw37012 48 rfl _ (alloc_leaf _) ?_
   case hw37012 => kernel_rfl
   simp only [Act.put, List.setIfInBounds_toArray, List.set_cons_zero, List.set_cons_succ]
   refine wpList_store_row rfl 48 _ _ rfl (wr.heap.size) D rfl rfl 48 Lf.zero.cells.toArray (heap_new _ _) (leafInfo HSZ.out) (by rw [HSZ.out]; exact Lf.size Lf.zero_ok) (HAL.out) ?_
   simp only [Act.put]
   rw [World.setRow_alloc_new]
   have K4 := Lib.hid (HK.out.alloc HK.out.size (.cells D 48))
   have I4 := Lib.hid (HI.out.alloc (.cells D 48))
   have R4 := Lib.hid (heap_new wr (.cells D 48))
   obtain ⟨lb, hlb⟩ : ∃ lb, lb = wr.heap.size := ⟨_, rfl⟩
   rw [← hlb] at R4
   (try rw [← hlb])
   generalize wr.alloc (.cells D 48) = w4 at K4 I4 R4 ⊢
   clear hlb HLD HK HI
   by_cases hz : nm = 0
   ·have HZB := Lib.hid (show (nm == 0) = true by rw [beq_iff_eq]; exact hz)
    rw [HZB.out] at HIB HNX
    rw [if_pos rfl] at HNX
    clear hz
    go_upto_region 5 with fail
    refine wp_region_lit ?_
    refine @wpList_load_known _ _ _ _ _ _ _ ?hw37014 48 (.tmp 5) rfl (lb) (0) rfl (.agg D) (run_loadVar_row w4 lb 48 48 _ (0, 0) _ R4.out Tryz.underlying48 rfl (leafInfo HSZ.out)) ?_
    case hw37014 => kernel_rfl
    simp only [Act.put, List.setIfInBounds_toArray, List.set_cons_zero, List.set_cons_succ]
    refine @BigFrame.wpList_want _ _ _ _ _ _ _ ?hw37013 ?_
    case hw37013 => kernel_rfl
    intro K hK
    go_simp
    go_at_call 40
    refine (HIB.out _).mono ?_
    rintro e w5 ⟨rfl, k5⟩
    have K5 := Lib.hid (K4.out.next1 k5)
    have I5 := Lib.hid (I4.out.kept k5)
    have R5 := Lib.hid ((k5.block lb (lt_of_block R4.out) (Nat.ne_of_lt (lt_of_block R4.out))).trans R4.out)
    clear k5
    refine hK _ _ ?_
    clear hK K
    refine @BigFrame.wpList_want _ _ _ _ _ _ _ ?hw37015 ?_
    case hw37015 => kernel_rfl
    intro K hK
    go_simp
    refine hK _ _ ?_
    clear hK K
    go_wp2
    go_roundw
    case rel => exact ⟨i + 1, _, rfl, by simp, Lib.hid HLT.out, K5, by rw [HNX.out]; exact I5⟩
    case measure => have := HLT.out; simp [RowKit.intOf]; omega
   ·have HZB := Lib.hid (show (nm == 0) = false by rw [beq_eq_false_iff_ne]; exact hz)
    rw [HZB.out] at HIB HNX
    rw [if_neg (by decide)] at HNX
    clear hz
    go_upto_region 5 with fail
    refine wp_region_lit ?_
    refine @wpList_load_known _ _ _ _ _ _ _ ?hw37017 48 (.tmp 5) rfl (lb) (0) rfl (.agg D) (run_loadVar_row w4 lb 48 48 _ (0, 0) _ R4.out Tryz.underlying48 rfl (leafInfo HSZ.out)) ?_
    case hw37017 => kernel_rfl
    simp only [Act.put, List.setIfInBounds_toArray, List.set_cons_zero, List.set_cons_succ]
    refine @BigFrame.wpList_want _ _ _ _ _ _ _ ?hw37016 ?_
    case hw37016 => kernel_rfl
    intro K hK
    go_simp
    go_at_call 40
    refine (HIB.out _).mono ?_
    rintro e w5 ⟨rfl, k5⟩
    have K5 := Lib.hid (K4.out.next1 k5)
    have I5 := Lib.hid (I4.out.kept k5)
    have R5 := Lib.hid ((k5.block lb (lt_of_block R4.out) (Nat.ne_of_lt (lt_of_block R4.out))).trans R4.out)
    clear k5
    refine hK _ _ ?_
    clear hK K
    refine @BigFrame.wpList_want _ _ _ _ _ _ _ ?hw37018 ?_
    case hw37018 => kernel_rfl
    intro K hK
    go_simp
    refine hK _ _ ?_
    clear hK K
    go_upto_region 6 with fail
    have c0 : w5.cell? ⟨lb, 0, none⟩ = some (.int .i64 nm) := by rw [cell_of_row w5 lb 0 _ _ _ R5.out]; exact hD0
    have K6 := Lib.hid (K5.out.alloc K5.out.size (.cells #[.int .i64 nm] 3))
    have i6 := I5.out.alloc (.cells #[.int .i64 nm] 3)
    obtain ⟨v7, w7, e7, i7, g7⟩ := append_int1 _ _ _ _ nm i6 w5.heap.size 1 (one_cellT (heap_new w5 (.cells #[.int .i64 nm] 3))) (by have := HNL.out i; omega) K6.out.size
    have k7 := K6.out.grown g7 K6.out.size (fun k e => (World.ownsRow.lt i6 k e).1)
    rw [← HNX.out] at i7
    obtain ⟨vad7, vc7, hv7⟩ := (ints_nums i7).shape
    subst hv7
    obtain ⟨vn7, hvn7⟩ : ∃ vn7, vn7 = (Tt.names (L.take (i + 1))).length := ⟨_, rfl⟩
    rw [← hvn7] at e7 i7
    have E7 := Lib.hid e7
    have I7 := Lib.hid i7
    have K7 := Lib.hid k7
    clear i6 e7 i7 g7 k7 hvn7
    refine wp_region_lit ?_
    refine @BigFrame.wpList_want _ _ _ _ _ _ _ ?hw37019 ?_
    case hw37019 => kernel_rfl
    intro K hK
    go_simp
    refine hK _ _ ?_
    clear hK K
    refine @BigFrame.wpList_want _ _ _ _ _ _ _ ?hw37020 ?_
    case hw37020 => kernel_rfl
    intro K hK
    go_simp
    refine hK _ _ ?_
    clear hK K
    refine @BigFrame.wpList_want _ _ _ _ _ _ _ ?hw37021 ?_
    case hw37021 => kernel_rfl
    intro K hK
    go_simp
    refine hK _ _ ?_
    clear hK K
    refine @BigFrame.wpList_want _ _ _ _ _ _ _ ?hw37022 ?_
    case hw37022 => kernel_rfl
    intro K hK
    go_simp
    refine hK _ _ ?_
    clear hK K
    refine wpList_append_known rfl (.tmp 17) (.tmp 20) 35 35 35 rfl rfl (.slice vad vn vc) (.slice (some ⟨w5.heap.size, 0, none⟩) 1 1) rfl rfl E7.out ?_
    simp only [Act.put, List.setIfInBounds_toArray, List.set_cons_zero, List.set_cons_succ]
    refine @BigFrame.wpList_want _ _ _ _ _ _ _ ?hw37023 ?_
    case hw37023 => kernel_rfl
    intro K hK
    go_simp
    refine hK _ _ ?_
    clear hK K
    clear c0
    go_wp2
    go_roundw
    case rel => exact ⟨i + 1, _, rfl, by simp, Lib.hid HLT.out, K7, I7⟩
    case measure => have := HLT.out; simp [RowKit.intOf]; omega
  ·have hnl : ¬ (i : Int) < (ln : Int) := by omega
   have HE := Lib.hid (show i = ln by have := hi.out; omega)
   clear hlt hi
   have HSO := Lib.hid (sort_ints wr w.heap.size (.slice vad vn vc) _ HI.out (by have := HNL.out i; omega))
   go_upto_region 8 with fail
   refine wp_region_lit ?_
   refine @BigFrame.wpList_want _ _ _ _ _ _ _ ?hw37024 ?_
   case hw37024 => kernel_rfl
   intro K hK
   go_simp
   refine hK _ _ ?_
   clear hK K
   refine @BigFrame.wpList_want _ _ _ _ _ _ _ ?hw37025 ?_
   case hw37025 => kernel_rfl
   intro K hK
   go_simp
   go_at_call 48
   refine (HSO.out).mono ?_
   rintro e w9 ⟨rfl, i9, g9⟩
   refine hK _ _ ?_
   clear hK K
   have I9 := Lib.hid i9
   have K9 := Lib.hid (HK.out.grown g9 HK.out.size (fun k e => (World.ownsRow.lt HI.out k e).1))
   clear i9 g9
   go_wp2
   go_ret
   refine ⟨_, rfl, ?_, K9.out⟩
   have := I9.out
   rw [HE.out, HLN.out, List.take_length] at this
   exact this

end Go.Proofs.YtilpehpiikdkbaaGreatDoor
