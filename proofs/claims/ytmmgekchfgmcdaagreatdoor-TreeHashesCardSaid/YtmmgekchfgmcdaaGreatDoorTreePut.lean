/-
  The landed putLeaf, putParent, written.
-/
import Derived.Test.YtmmgekchfgmcdaaGreatDoorTreeText
import Derived.Test.YtmmgekchfgmcdaaGreatDoorGX
import Derived.Test.YtmmgekchfgmcdaaGreatDoorGV

namespace Go.Proofs.YtmmgekchfgmcdaaGreatDoor
open Go.RowKit Go.Lib

/-- A writer that is being written, since w0. -/
structure Pu (w0 : World) (base b : Nat) (s : List UInt8) (w : World) : Prop where
  wr : Wr w base b (some s)
  tab : Tab w
  kp : Kept base b w0 w
  fr : Fr b w0 w
  pos : 0 < b
section
variable {w0 w w1 : World} {base b : Nat} {s : List UInt8}
theorem Pu.start (h : Wr w base b (some s)) (ht : Tab w) (hb : 0 < b) : Pu w base b s w := ⟨h, ht, Kept.refl _ _ _, Fr.refl _ _, hb⟩
theorem Pu.kept (h : Pu w0 base b s w) (k : Kept w.heap.size w.heap.size w w1) : Pu w0 base b s w1 := by
  have hlt := h.wr.lt
  have hle := h.wr.le
  refine ⟨h.wr.same k.size (k.block b (by omega) (by omega)) (fun i _ hi => k.block i hi (by omega)), h.tab.same (k.block 0 h.tab.lt (Nat.ne_of_lt h.tab.lt)), h.kp.trans (k.mono hle (fun i hi _ => by omega)), fun i o h1 h2 h3 => ?_, h.pos⟩
  have h4 := h.fr i o h1 h2 h3
  exact (k.block i (lt_of_block h4) (Nat.ne_of_lt (lt_of_block h4))).trans h4
theorem Pu.box (h : Pu w0 base b s w) {lb : Nat} {cs : Array Value} {t : TypeId} (hb : w0.heap[lb]? = some (.cells cs t (0, 0))) (hne : lb ≠ b) (ht : t ≠ 5) : w.heap[lb]? = some (.cells cs t (0, 0)) :=
  h.fr lb _ hb hne (fun _ _ e => by injection e with _ e2; exact ht e2)
theorem wrv_of (h : Wr w base b (some s)) : WrV w base b (.pointer (some ⟨b, 0, none⟩)) (some s) := .inr ⟨rfl, h⟩
theorem wr_of {st : Option (List UInt8)} (h : WrV w base b (.pointer (some ⟨b, 0, none⟩)) st) : Wr w base b st := by
  rcases h with ⟨h1, _⟩ | ⟨_, h2⟩
  · cases h1
  · exact h2
theorem Pu.next (h : Pu w0 base b s w) {s1 : List UInt8} (h1 : Wr w1 base b (some s1)) (k : Kept base b w w1) (f : Fr b w w1) : Pu w0 base b s1 w1 :=
  ⟨h1, h.tab.kept k (Nat.lt_of_lt_of_le h.pos (Nat.le_of_lt h.wr.lt)) h.pos, h.kp.trans k, h.fr.trans f, h.pos⟩
theorem short_of (hs : s.length ≤ 100000) : Short (some s) 800000000 := fun l hl => by
  cases hl
  exact Nat.le_trans hs (by decide)
theorem Pu.num (h : Pu w0 base b s w) (n : Nat) (hn : n ≤ 100000) (hs : s.length ≤ 100000) : Calls Tryz.prog 60 #[.pointer (some ⟨b, 0, none⟩), .int .i64 (n : Int)] w fun e w' => e = .returned (.tuple #[]) ∧ Pu w0 base b (s ++ Wm.enc n) w' := by
  refine (wnum_f base b _ (some s) (n : Int) w (wrv_of h.wr) h.tab (short_of hs)).mono ?_
  rintro e w' ⟨rfl, h1, k, f⟩
  rw [pNum, if_pos (by omega), Int.toNat_natCast] at h1
  exact ⟨rfl, h.next (wr_of h1) k f⟩
theorem Pu.flag (h : Pu w0 base b s w) (x : Bool) (hs : s.length ≤ 100000) : Calls Tryz.prog 106 #[.pointer (some ⟨b, 0, none⟩), .bool x] w fun e w' => e = .returned (.tuple #[]) ∧ Pu w0 base b (s ++ [if x then 1 else 0]) w' := by
  refine (wflag_f base b _ (some s) x w (wrv_of h.wr) (short_of hs)).mono ?_
  rintro e w' ⟨rfl, h1, k, f⟩
  exact ⟨rfl, h.next (wr_of h1) k f⟩
theorem Pu.hash (h : Pu w0 base b s w) (x : List UInt8) (hx : x.length = 32) (hs : s.length ≤ 100000) : Calls Tryz.prog 97 #[.pointer (some ⟨b, 0, none⟩), .agg (bcells x).toArray] w fun e w' => e = .returned (.tuple #[]) ∧ Pu w0 base b (s ++ x) w' := by
  refine (whash_f base b _ (some s) x hx w (wrv_of h.wr) (short_of hs)).mono ?_
  rintro e w' ⟨rfl, h1, k, f⟩
  exact ⟨rfl, h.next (wr_of h1) k f⟩
end
theorem load_ints7 {w : World} {g o : Nat} {a : Option Addr} {n c : Nat} (h : w.cell? ⟨g, o, none⟩ = some (.slice a n c)) : (loadVar 35 ⟨g, o, none⟩).run Tryz.prog w = .ok (.slice a n c) w := by
  go_simp
set_option maxRecDepth 100000 in
set_option maxHeartbeats 6400000 in
theorem putleaf_calls (w0 : World) (base b : Nat) (s : List UInt8) (l : Lf) (hok : l.Ok) (h0 : 0 ≤ l.name) (h64 : l.name ≤ 64) (w : World) (hU : Pu w0 base b s w) (hs : s.length ≤ 90000) :
    Calls Tryz.prog 61 #[.pointer (some ⟨b, 0, none⟩), .agg l.cells.toArray] w fun e w' => e = .returned (.tuple #[]) ∧ Pu w0 base b (s ++ Tt.leafText l) w' := by
  obtain ⟨nn, hnn⟩ : ∃ nn : Nat, l.name = (nn : Int) := ⟨l.name.toNat, by omega⟩
  have hnn9 : nn ≤ 64 := by omega
  have HOK := Lib.hid hok
  have HNN := Lib.hid hnn
  have HS := Lib.hid hs
  have HIB := Lib.hid (isblank_calls l)
  have HSZ := Lib.hid (Lf.size hok)
  obtain ⟨D, hD⟩ : ∃ D, D = l.cells.toArray := ⟨_, rfl⟩
  rw [← hD] at HIB HSZ ⊢
  have HDE := Lib.hid hD
  have HAL := Lib.hid (show D.all (·.oneCell') = true by rw [hD]; exact l.all)
  clear hok hD h0 h64 hs
  go_enter Tryz.func61, Tryz.ntmps61
  go_upto_region 1 with fail
  have u1 := hU.kept ((Kept.refl w.heap.size w.heap.size w).alloc (Nat.le_refl _) (.cells D 48))
  have b1 := heap_new w (.cells D 48)
  have hlb := Nat.lt_of_lt_of_le hU.wr.lt hU.wr.le
  generalize w.alloc (.cells D 48) = w1 at u1 b1 ⊢
  obtain ⟨lb, hlbe⟩ : ∃ lb, lb = w.heap.size := ⟨_, rfl⟩
  rw [← hlbe] at b1 hlb
  (try rw [← hlbe])
  have HNE := Lib.hid (show lb ≠ b by omega)
  have U1 : Hid (Pu w1 base b s w1) := Lib.hid (Pu.start u1.wr u1.tab u1.pos)
  have B1 := Lib.hid b1
  have HK0 := Lib.hid (fun (t : List UInt8) (x : World) (u : Pu w1 base b t x) => (show Pu w0 base b t x from ⟨u.wr, u.tab, u1.kp.trans u.kp, u1.fr.trans u.fr, u.pos⟩))
  clear hU u1 b1 hlbe hlb
  have HBX := Lib.hid (fun (t : List UInt8) (x : World) (u : Pu w1 base b t x) => u.box B1.out HNE.out (by decide))
  have HLD := Lib.hid (fun (t : List UInt8) (x : World) (u : Pu w1 base b t x) => run_loadVar_row x lb 48 48 _ (0, 0) _ (HBX.out t x u) Tryz.underlying48 rfl (leafInfo HSZ.out))
  by_cases hz : nn = 0
  · have HZB := Lib.hid (show (l.name == 0) = true by rw [HNN.out, hz]; rfl)
    rw [HZB.out] at HIB
    have HEQ := Lib.hid (show s ++ [if false = true then 1 else 0] = s ++ Tt.leafText l by
      show s ++ [0] = _
      rw [Tt.leafText, if_neg (by rw [HNN.out]; omega)])
    clear hz
    refine wp_region_lit ?_
    refine @BigFrame.wpList_want _ _ _ _ _ _ _ ?hw52003 ?_
    case hw52003 => kernel_rfl
    intro K hK
    go_simp
    refine hK _ _ ?_
    clear hK K
    refine @wpList_load_known _ _ _ _ _ _ _ ?hw52004 48 (.tmp 3) rfl (lb) (0) rfl (.agg D) (HLD.out _ w1 U1.out) ?_
    case hw52004 => kernel_rfl
    simp only [Act.put, List.setIfInBounds_toArray, List.set_cons_zero, List.set_cons_succ]
    refine @BigFrame.wpList_want _ _ _ _ _ _ _ ?hw52001 ?_
    case hw52001 => kernel_rfl
    intro K hK
    go_simp
    go_at_call 40
    refine (HIB.out _).mono ?_
    rintro e w2 ⟨rfl, k2⟩
    have U2 := Lib.hid (U1.out.kept k2)
    clear k2
    refine hK _ _ ?_
    clear hK K
    refine @BigFrame.wpList_want _ _ _ _ _ _ _ ?hw52005 ?_
    case hw52005 => kernel_rfl
    intro K hK
    go_simp
    refine hK _ _ ?_
    clear hK K
    refine @BigFrame.wpList_want _ _ _ _ _ _ _ ?hw52002 ?_
    case hw52002 => kernel_rfl
    intro K hK
    go_simp
    go_at_call 106
    refine (U2.out.flag _ (by have := HS.out; omega)).mono ?_
    rintro e w3 ⟨rfl, u3⟩
    have U3 := Lib.hid u3
    clear u3
    refine hK _ _ ?_
    clear hK K
    go_upto_region 2 with fail
    refine wp_region_lit ?_
    refine @wpList_load_known _ _ _ _ _ _ _ ?hw52007 48 (.tmp 3) rfl (lb) (0) rfl (.agg D) (HLD.out _ w3 U3.out) ?_
    case hw52007 => kernel_rfl
    simp only [Act.put, List.setIfInBounds_toArray, List.set_cons_zero, List.set_cons_succ]
    refine @BigFrame.wpList_want _ _ _ _ _ _ _ ?hw52006 ?_
    case hw52006 => kernel_rfl
    intro K hK
    go_simp
    go_at_call 40
    refine (HIB.out _).mono ?_
    rintro e w4 ⟨rfl, k4⟩
    have U4 := Lib.hid (U3.out.kept k4)
    clear k4
    refine hK _ _ ?_
    clear hK K
    go_wp2
    refine bodyPost_ret (results_none rfl _ _ _) rfl ?_
    exact ⟨rfl, HK0.out _ _ (by have := U4.out; rw [HEQ.out] at this; exact this)⟩
  · have HZB := Lib.hid (show (l.name == 0) = false by rw [HNN.out, beq_eq_false_iff_ne]; omega)
    rw [HZB.out] at HIB
    have HEQ := Lib.hid (show s ++ [if true = true then 1 else 0] ++ Wm.enc nn ++ l.pub ++ l.ver ++ l.abv = s ++ Tt.leafText l by
      show s ++ [1] ++ Wm.enc nn ++ l.pub ++ l.ver ++ l.abv = _
      rw [Tt.leafText, if_pos (by rw [HNN.out]; omega), HNN.out, Int.toNat_natCast]
      simp only [List.append_assoc])
    have HLE := Lib.hid (Wm.enc_length_le nn)
    have HLP := Lib.hid (fun (t : List UInt8) (x : World) (u : Pu w1 base b t x) => run_loadVar_mid x lb 1 39 (bcells l.pub) _ (lf_part (by rw [← HDE.out]; exact HBX.out t x u) 1 l.pub HOK.out.1 (Lf.part_pub HOK.out)) Tryz.underlying39 rfl (hashInfoT (by rw [bcells_length, HOK.out.1])))
    have HLV := Lib.hid (fun (t : List UInt8) (x : World) (u : Pu w1 base b t x) => run_loadVar_mid x lb 33 39 (bcells l.ver) _ (lf_part (by rw [← HDE.out]; exact HBX.out t x u) 33 l.ver HOK.out.2.1 (Lf.part_ver HOK.out)) Tryz.underlying39 rfl (hashInfoT (by rw [bcells_length, HOK.out.2.1])))
    have HLA := Lib.hid (fun (t : List UInt8) (x : World) (u : Pu w1 base b t x) => run_loadVar_mid x lb 65 39 (bcells l.abv) _ (lf_part (by rw [← HDE.out]; exact HBX.out t x u) 65 l.abv HOK.out.2.2 (Lf.part_abv HOK.out)) Tryz.underlying39 rfl (hashInfoT (by rw [bcells_length, HOK.out.2.2])))
    have HPN := Lib.hid (fun (t : List UInt8) (x : World) (u : Pu w1 base b t x) => show x.cell? ⟨lb, 0, none⟩ = some (.int .i64 (nn : Int)) by rw [← HNN.out]; exact lf_name (by rw [← HDE.out]; exact HBX.out t x u))
    have HHP := Lib.hid (fun (t : List UInt8) (x : World) (u : Pu w1 base b t x) (ht : t.length ≤ 100000) => u.hash l.pub HOK.out.1 ht)
    have HHV := Lib.hid (fun (t : List UInt8) (x : World) (u : Pu w1 base b t x) (ht : t.length ≤ 100000) => u.hash l.ver HOK.out.2.1 ht)
    have HHA := Lib.hid (fun (t : List UInt8) (x : World) (u : Pu w1 base b t x) (ht : t.length ≤ 100000) => u.hash l.abv HOK.out.2.2 ht)
    obtain ⟨DP, hDP⟩ : ∃ D, D = (bcells l.pub).toArray := ⟨_, rfl⟩
    obtain ⟨DV, hDV⟩ : ∃ D, D = (bcells l.ver).toArray := ⟨_, rfl⟩
    obtain ⟨DA, hDA⟩ : ∃ D, D = (bcells l.abv).toArray := ⟨_, rfl⟩
    rw [← hDP] at HLP HHP
    rw [← hDV] at HLV HHV
    rw [← hDA] at HLA HHA
    clear hz hDP hDV hDA
    refine wp_region_lit ?_
    refine @BigFrame.wpList_want _ _ _ _ _ _ _ ?hw52010 ?_
    case hw52010 => kernel_rfl
    intro K hK
    go_simp
    refine hK _ _ ?_
    clear hK K
    refine @wpList_load_known _ _ _ _ _ _ _ ?hw52011 48 (.tmp 3) rfl (lb) (0) rfl (.agg D) (HLD.out _ w1 U1.out) ?_
    case hw52011 => kernel_rfl
    simp only [Act.put, List.setIfInBounds_toArray, List.set_cons_zero, List.set_cons_succ]
    refine @BigFrame.wpList_want _ _ _ _ _ _ _ ?hw52008 ?_
    case hw52008 => kernel_rfl
    intro K hK
    go_simp
    go_at_call 40
    refine (HIB.out _).mono ?_
    rintro e w2 ⟨rfl, k2⟩
    have U2 := Lib.hid (U1.out.kept k2)
    clear k2
    refine hK _ _ ?_
    clear hK K
    refine @BigFrame.wpList_want _ _ _ _ _ _ _ ?hw52012 ?_
    case hw52012 => kernel_rfl
    intro K hK
    go_simp
    refine hK _ _ ?_
    clear hK K
    refine @BigFrame.wpList_want _ _ _ _ _ _ _ ?hw52009 ?_
    case hw52009 => kernel_rfl
    intro K hK
    go_simp
    go_at_call 106
    refine (U2.out.flag _ (by have := HS.out; omega)).mono ?_
    rintro e w3 ⟨rfl, u3⟩
    have U3 := Lib.hid u3
    clear u3
    refine hK _ _ ?_
    clear hK K
    go_upto_region 2 with fail
    refine wp_region_lit ?_
    refine @wpList_load_known _ _ _ _ _ _ _ ?hw52014 48 (.tmp 3) rfl (lb) (0) rfl (.agg D) (HLD.out _ w3 U3.out) ?_
    case hw52014 => kernel_rfl
    simp only [Act.put, List.setIfInBounds_toArray, List.set_cons_zero, List.set_cons_succ]
    refine @BigFrame.wpList_want _ _ _ _ _ _ _ ?hw52013 ?_
    case hw52013 => kernel_rfl
    intro K hK
    go_simp
    go_at_call 40
    refine (HIB.out _).mono ?_
    rintro e w4 ⟨rfl, k4⟩
    have U4 := Lib.hid (U3.out.kept k4)
    clear k4
    refine hK _ _ ?_
    clear hK K
    have c0 := HPN.out _ _ U4.out
    go_upto_region 3 with fail
    refine wp_region_lit ?_
    refine @BigFrame.wpList_want _ _ _ _ _ _ _ ?hw52016 ?_
    case hw52016 => kernel_rfl
    intro K hK
    go_simp
    refine hK _ _ ?_
    clear hK K
    refine @BigFrame.wpList_want _ _ _ _ _ _ _ ?hw52017 ?_
    case hw52017 => kernel_rfl
    intro K hK
    go_simp
    refine hK _ _ ?_
    clear hK K
    refine @BigFrame.wpList_want _ _ _ _ _ _ _ ?hw52018 ?_
    case hw52018 => kernel_rfl
    intro K hK
    go_simp
    refine hK _ _ ?_
    clear hK K
    refine @BigFrame.wpList_want _ _ _ _ _ _ _ ?hw52015 ?_
    case hw52015 => kernel_rfl
    intro K hK
    go_simp
    go_at_call 60
    refine (U4.out.num nn (by omega) (by simp only [List.length_append, List.length_singleton]; have := HS.out; omega)).mono ?_
    rintro e w5 ⟨rfl, u5⟩
    have U5 := Lib.hid u5
    clear u5 c0
    refine hK _ _ ?_
    clear hK K
    go_upto_region 4 with fail
    refine wp_region_lit ?_
    refine @BigFrame.wpList_want _ _ _ _ _ _ _ ?hw52020 ?_
    case hw52020 => kernel_rfl
    intro K hK
    go_simp
    refine hK _ _ ?_
    clear hK K
    refine @BigFrame.wpList_want _ _ _ _ _ _ _ ?hw52021 ?_
    case hw52021 => kernel_rfl
    intro K hK
    go_simp
    refine hK _ _ ?_
    clear hK K
    refine @wpList_load_known _ _ _ _ _ _ _ ?hw52022 39 (.tmp 16) rfl (lb) (1) rfl (.agg DP) (HLP.out _ _ U5.out) ?_
    case hw52022 => kernel_rfl
    simp only [Act.put, List.setIfInBounds_toArray, List.set_cons_zero, List.set_cons_succ]
    refine @BigFrame.wpList_want _ _ _ _ _ _ _ ?hw52019 ?_
    case hw52019 => kernel_rfl
    intro K hK
    go_simp
    go_at_call 97
    refine (HHP.out _ _ U5.out (by simp only [List.length_append, List.length_singleton]; have := HS.out; have := HLE.out; omega)).mono ?_
    rintro e w6 ⟨rfl, u6⟩
    have U6 := Lib.hid u6
    clear u6
    refine hK _ _ ?_
    clear hK K
    go_upto_region 5 with fail
    refine wp_region_lit ?_
    refine @BigFrame.wpList_want _ _ _ _ _ _ _ ?hw52024 ?_
    case hw52024 => kernel_rfl
    intro K hK
    go_simp
    refine hK _ _ ?_
    clear hK K
    refine @BigFrame.wpList_want _ _ _ _ _ _ _ ?hw52025 ?_
    case hw52025 => kernel_rfl
    intro K hK
    go_simp
    refine hK _ _ ?_
    clear hK K
    refine @wpList_load_known _ _ _ _ _ _ _ ?hw52026 39 (.tmp 20) rfl (lb) (33) rfl (.agg DV) (HLV.out _ _ U6.out) ?_
    case hw52026 => kernel_rfl
    simp only [Act.put, List.setIfInBounds_toArray, List.set_cons_zero, List.set_cons_succ]
    refine @BigFrame.wpList_want _ _ _ _ _ _ _ ?hw52023 ?_
    case hw52023 => kernel_rfl
    intro K hK
    go_simp
    go_at_call 97
    refine (HHV.out _ _ U6.out (by simp only [List.length_append, List.length_singleton]; have := HS.out; have := HLE.out; have := HOK.out.1; omega)).mono ?_
    rintro e w7 ⟨rfl, u7⟩
    have U7 := Lib.hid u7
    clear u7
    refine hK _ _ ?_
    clear hK K
    go_upto_region 6 with fail
    refine wp_region_lit ?_
    refine @BigFrame.wpList_want _ _ _ _ _ _ _ ?hw52028 ?_
    case hw52028 => kernel_rfl
    intro K hK
    go_simp
    refine hK _ _ ?_
    clear hK K
    refine @BigFrame.wpList_want _ _ _ _ _ _ _ ?hw52029 ?_
    case hw52029 => kernel_rfl
    intro K hK
    go_simp
    refine hK _ _ ?_
    clear hK K
    refine @wpList_load_known _ _ _ _ _ _ _ ?hw52030 39 (.tmp 24) rfl (lb) (65) rfl (.agg DA) (HLA.out _ _ U7.out) ?_
    case hw52030 => kernel_rfl
    simp only [Act.put, List.setIfInBounds_toArray, List.set_cons_zero, List.set_cons_succ]
    refine @BigFrame.wpList_want _ _ _ _ _ _ _ ?hw52027 ?_
    case hw52027 => kernel_rfl
    intro K hK
    go_simp
    go_at_call 97
    refine (HHA.out _ _ U7.out (by simp only [List.length_append, List.length_singleton]; have := HS.out; have := HLE.out; have := HOK.out.1; have := HOK.out.2.1; omega)).mono ?_
    rintro e w8 ⟨rfl, u8⟩
    have U8 := Lib.hid u8
    clear u8
    refine hK _ _ ?_
    clear hK K
    go_wp2
    refine bodyPost_end (results_none rfl _ _ _) rfl ?_
    exact ⟨rfl, HK0.out _ _ (by have := U8.out; rw [HEQ.out] at this; exact this)⟩

set_option maxRecDepth 100000 in
set_option maxHeartbeats 6400000 in
theorem putparent_calls (w0 : World) (base b : Nat) (s : List UInt8) (p : Pr) (hok : p.Ok) (sl : Value) (w : World) (hU : Pu w0 base b s w) (hs : s.length ≤ 80000) (hn : Nums w0 sl p.loose) (hbd : ∀ (i : Nat) (g o : Nat), sl = .slice (some ⟨g, o, none⟩) p.loose.length i → 0 < p.loose.length → g < base ∧ g ≠ b) (hl : p.loose.length ≤ 1000) (hlo : ∀ y ∈ p.loose, 0 ≤ y ∧ y ≤ 64) :
    Calls Tryz.prog 62 #[.pointer (some ⟨b, 0, none⟩), .agg (p.cells sl).toArray] w fun e w' => e = .returned (.tuple #[]) ∧ Pu w0 base b (s ++ Tt.parentText p) w' := by
  obtain ⟨sad, sc, ng, no, rfl, hnc⟩ := hn
  obtain ⟨ln, hln⟩ : ∃ ln, ln = p.loose.length := ⟨_, rfl⟩
  have hln9 : (ln : Int) ≤ 1000 := by omega
  have hln8 : ln ≤ 1000 := by omega
  have HOK := Lib.hid hok
  have HS := Lib.hid hs
  have HLN := Lib.hid hln
  have HLO := Lib.hid hlo
  rw [← hln] at hbd ⊢
  have HNC := Lib.hid (fun (t : List UInt8) (x : World) (u : Pu w0 base b t x) (i : Nat) (hi : i < p.loose.length) => show sad = some ⟨ng, no, none⟩ ∧ x.cell? ⟨ng, no + i, none⟩ = some (.int .i64 p.loose[i]) from by
    obtain ⟨e1, _, e3⟩ := hnc i hi
    obtain ⟨h1, h2⟩ := hbd sc ng no (by rw [e1]) (by omega)
    exact ⟨e1, (u.kp.cell (p := ⟨ng, no + i, none⟩) h1 h2).trans e3⟩)
  have HSZ := Lib.hid (Pr.size hok (.slice sad ln sc))
  obtain ⟨D, hD⟩ : ∃ D, D = (p.cells (.slice sad ln sc)).toArray := ⟨_, rfl⟩
  rw [← hD] at HSZ ⊢
  have HDE := Lib.hid hD
  clear hok hD hl hlo hs hln hnc hbd
  go_enter Tryz.func62, Tryz.ntmps62
  go_upto_region 1 with fail
  have u1 := hU.kept ((Kept.refl w.heap.size w.heap.size w).alloc (Nat.le_refl _) (.cells D 75))
  have b1 := heap_new w (.cells D 75)
  have hlb := Nat.lt_of_lt_of_le hU.wr.lt hU.wr.le
  generalize w.alloc (.cells D 75) = w1 at u1 b1 ⊢
  obtain ⟨lb, hlbe⟩ : ∃ lb, lb = w.heap.size := ⟨_, rfl⟩
  rw [← hlbe] at b1 hlb
  (try rw [← hlbe])
  have HNE := Lib.hid (show lb ≠ b by omega)
  have U1 : Hid (Pu w1 base b s w1) := Lib.hid (Pu.start u1.wr u1.tab u1.pos)
  have B1 := Lib.hid b1
  have HK0 := Lib.hid (fun (t : List UInt8) (x : World) (u : Pu w1 base b t x) => (show Pu w0 base b t x from ⟨u.wr, u.tab, u1.kp.trans u.kp, u1.fr.trans u.fr, u.pos⟩))
  clear hU u1 b1 hlbe hlb
  have HBX := Lib.hid (fun (t : List UInt8) (x : World) (u : Pu w1 base b t x) => (show x.heap[lb]? = some (.cells (p.cells (.slice sad ln sc)).toArray 75 (0, 0)) by rw [← HDE.out]; exact u.box B1.out HNE.out (by decide)))
  have c0 := pr_cell0 (HBX.out _ _ U1.out)
  obtain ⟨st, hst⟩ : ∃ st, st = p.set := ⟨_, rfl⟩
  rw [← hst] at c0
  have HST := Lib.hid hst
  have HC0 := Lib.hid (fun (t : List UInt8) (x : World) (u : Pu w1 base b t x) => (show x.cell? ⟨lb, 0, none⟩ = some (.bool st) by rw [hst]; exact pr_cell0 (HBX.out t x u)))
  clear hst
  cases st with
  | false =>
    have HEQ := Lib.hid (show s ++ [if false = true then 1 else 0] = s ++ Tt.parentText p by
      show s ++ [0] = _
      rw [Tt.parentText, ← HST.out, if_neg (by decide)])
    refine wp_region_lit ?_
    refine @BigFrame.wpList_want _ _ _ _ _ _ _ ?hw52032 ?_
    case hw52032 => kernel_rfl
    intro K hK
    go_simp
    refine hK _ _ ?_
    clear hK K
    refine @BigFrame.wpList_want _ _ _ _ _ _ _ ?hw52033 ?_
    case hw52033 => kernel_rfl
    intro K hK
    go_simp
    refine hK _ _ ?_
    clear hK K
    refine @BigFrame.wpList_want _ _ _ _ _ _ _ ?hw52034 ?_
    case hw52034 => kernel_rfl
    intro K hK
    go_simp
    refine hK _ _ ?_
    clear hK K
    refine @BigFrame.wpList_want _ _ _ _ _ _ _ ?hw52031 ?_
    case hw52031 => kernel_rfl
    intro K hK
    go_simp
    go_at_call 106
    refine (U1.out.flag _ (by have := HS.out; omega)).mono ?_
    rintro e w3 ⟨rfl, u3⟩
    have U3 := Lib.hid u3
    clear u3 c0
    refine hK _ _ ?_
    clear hK K
    have c0 := HC0.out _ _ U3.out
    go_upto_region 2 with fail
    refine wp_region_lit ?_
    refine @BigFrame.wpList_want _ _ _ _ _ _ _ ?hw52035 ?_
    case hw52035 => kernel_rfl
    intro K hK
    go_simp
    refine hK _ _ ?_
    clear hK K
    refine @BigFrame.wpList_want _ _ _ _ _ _ _ ?hw52036 ?_
    case hw52036 => kernel_rfl
    intro K hK
    go_simp
    refine hK _ _ ?_
    clear hK K
    refine @BigFrame.wpList_want _ _ _ _ _ _ _ ?hw52037 ?_
    case hw52037 => kernel_rfl
    intro K hK
    go_simp
    refine hK _ _ ?_
    clear hK K
    clear c0
    go_wp2
    refine bodyPost_ret (results_none rfl _ _ _) rfl ?_
    exact ⟨rfl, HK0.out _ _ (by have := U3.out; rw [HEQ.out] at this; exact this)⟩
  | true =>
    have HEQ := Lib.hid (show s ++ [if true = true then 1 else 0] ++ p.pub ++ p.abv ++ Wm.enc ln ++ Tt.looseText p.loose = s ++ Tt.parentText p by
      show s ++ [1] ++ p.pub ++ p.abv ++ Wm.enc ln ++ Tt.looseText p.loose = _
      rw [Tt.parentText, ← HST.out, if_pos rfl, HLN.out]
      simp only [List.append_assoc])
    have HLE := Lib.hid (Wm.enc_length_le ln)
    have HLP := Lib.hid (fun (t : List UInt8) (x : World) (u : Pu w1 base b t x) => run_loadVar_mid x lb 1 39 (bcells p.pub) _ (pr_pub HOK.out (HBX.out t x u)) Tryz.underlying39 rfl (hashInfoT (by rw [bcells_length, HOK.out.1])))
    have HLA := Lib.hid (fun (t : List UInt8) (x : World) (u : Pu w1 base b t x) => run_loadVar_mid x lb 33 39 (bcells p.abv) _ (pr_abv HOK.out (HBX.out t x u)) Tryz.underlying39 rfl (hashInfoT (by rw [bcells_length, HOK.out.2])))
    have HHP := Lib.hid (fun (t : List UInt8) (x : World) (u : Pu w1 base b t x) (ht : t.length ≤ 100000) => u.hash p.pub HOK.out.1 ht)
    have HHA := Lib.hid (fun (t : List UInt8) (x : World) (u : Pu w1 base b t x) (ht : t.length ≤ 100000) => u.hash p.abv HOK.out.2 ht)
    obtain ⟨DP, hDP⟩ : ∃ D, D = (bcells p.pub).toArray := ⟨_, rfl⟩
    obtain ⟨DA, hDA⟩ : ∃ D, D = (bcells p.abv).toArray := ⟨_, rfl⟩
    rw [← hDP] at HLP HHP
    rw [← hDA] at HLA HHA
    clear hDP hDA
    refine wp_region_lit ?_
    refine @BigFrame.wpList_want _ _ _ _ _ _ _ ?hw52032 ?_
    case hw52032 => kernel_rfl
    intro K hK
    go_simp
    refine hK _ _ ?_
    clear hK K
    refine @BigFrame.wpList_want _ _ _ _ _ _ _ ?hw52033 ?_
    case hw52033 => kernel_rfl
    intro K hK
    go_simp
    refine hK _ _ ?_
    clear hK K
    refine @BigFrame.wpList_want _ _ _ _ _ _ _ ?hw52034 ?_
    case hw52034 => kernel_rfl
    intro K hK
    go_simp
    refine hK _ _ ?_
    clear hK K
    refine @BigFrame.wpList_want _ _ _ _ _ _ _ ?hw52031 ?_
    case hw52031 => kernel_rfl
    intro K hK
    go_simp
    go_at_call 106
    refine (U1.out.flag _ (by have := HS.out; omega)).mono ?_
    rintro e w3 ⟨rfl, u3⟩
    have U3 := Lib.hid u3
    clear u3 c0
    refine hK _ _ ?_
    clear hK K
    have c0 := HC0.out _ _ U3.out
    go_upto_region 2 with fail
    refine wp_region_lit ?_
    refine @BigFrame.wpList_want _ _ _ _ _ _ _ ?hw52035 ?_
    case hw52035 => kernel_rfl
    intro K hK
    go_simp
    refine hK _ _ ?_
    clear hK K
    refine @BigFrame.wpList_want _ _ _ _ _ _ _ ?hw52036 ?_
    case hw52036 => kernel_rfl
    intro K hK
    go_simp
    refine hK _ _ ?_
    clear hK K
    refine @BigFrame.wpList_want _ _ _ _ _ _ _ ?hw52037 ?_
    case hw52037 => kernel_rfl
    intro K hK
    go_simp
    refine hK _ _ ?_
    clear hK K
    clear c0
    go_upto_region 3 with fail
    refine wp_region_lit ?_
    refine @BigFrame.wpList_want _ _ _ _ _ _ _ ?hw52039 ?_
    case hw52039 => kernel_rfl
    intro K hK
    go_simp
    refine hK _ _ ?_
    clear hK K
    refine @BigFrame.wpList_want _ _ _ _ _ _ _ ?hw52040 ?_
    case hw52040 => kernel_rfl
    intro K hK
    go_simp
    refine hK _ _ ?_
    clear hK K
    refine @wpList_load_known _ _ _ _ _ _ _ ?hw52041 39 (.tmp 14) rfl (lb) (1) rfl (.agg DP) (HLP.out _ _ U3.out) ?_
    case hw52041 => kernel_rfl
    simp only [Act.put, List.setIfInBounds_toArray, List.set_cons_zero, List.set_cons_succ]
    refine @BigFrame.wpList_want _ _ _ _ _ _ _ ?hw52038 ?_
    case hw52038 => kernel_rfl
    intro K hK
    go_simp
    go_at_call 97
    refine (HHP.out _ _ U3.out (by simp only [List.length_append, List.length_singleton]; have := HS.out; omega)).mono ?_
    rintro e w4 ⟨rfl, u4⟩
    have U4 := Lib.hid u4
    clear u4
    refine hK _ _ ?_
    clear hK K
    go_upto_region 4 with fail
    refine wp_region_lit ?_
    refine @BigFrame.wpList_want _ _ _ _ _ _ _ ?hw52043 ?_
    case hw52043 => kernel_rfl
    intro K hK
    go_simp
    refine hK _ _ ?_
    clear hK K
    refine @BigFrame.wpList_want _ _ _ _ _ _ _ ?hw52044 ?_
    case hw52044 => kernel_rfl
    intro K hK
    go_simp
    refine hK _ _ ?_
    clear hK K
    refine @wpList_load_known _ _ _ _ _ _ _ ?hw52045 39 (.tmp 18) rfl (lb) (33) rfl (.agg DA) (HLA.out _ _ U4.out) ?_
    case hw52045 => kernel_rfl
    simp only [Act.put, List.setIfInBounds_toArray, List.set_cons_zero, List.set_cons_succ]
    refine @BigFrame.wpList_want _ _ _ _ _ _ _ ?hw52042 ?_
    case hw52042 => kernel_rfl
    intro K hK
    go_simp
    go_at_call 97
    refine (HHA.out _ _ U4.out (by simp only [List.length_append, List.length_singleton]; have := HS.out; have := HOK.out.1; omega)).mono ?_
    rintro e w5 ⟨rfl, u5⟩
    have U5 := Lib.hid u5
    clear u5
    refine hK _ _ ?_
    clear hK K
    have c65 := pr_loose HOK.out (HBX.out _ _ U5.out)
    go_upto_region 5 with fail
    refine wp_region_lit ?_
    refine @BigFrame.wpList_want _ _ _ _ _ _ _ ?hw52047 ?_
    case hw52047 => kernel_rfl
    intro K hK
    go_simp
    refine hK _ _ ?_
    clear hK K
    refine @BigFrame.wpList_want _ _ _ _ _ _ _ ?hw52048 ?_
    case hw52048 => kernel_rfl
    intro K hK
    go_simp
    refine hK _ _ ?_
    clear hK K
    refine @BigFrame.wpList_want _ _ _ _ _ _ _ ?hw52049 ?_
    case hw52049 => kernel_rfl
    intro K hK
    go_simp
    refine hK _ _ ?_
    clear hK K
    refine @BigFrame.wpList_want _ _ _ _ _ _ _ ?hw52050 ?_
    case hw52050 => kernel_rfl
    intro K hK
    go_simp
    refine hK _ _ ?_
    clear hK K
    refine @BigFrame.wpList_want _ _ _ _ _ _ _ ?hw52046 ?_
    case hw52046 => kernel_rfl
    intro K hK
    go_simp
    go_at_call 60
    refine (U5.out.num ln (by omega) (by simp only [List.length_append, List.length_singleton]; have := HS.out; have := HOK.out.1; have := HOK.out.2; omega)).mono ?_
    rintro e w6 ⟨rfl, u6⟩
    have U6 := Lib.hid u6
    clear u6 c65
    refine hK _ _ ?_
    clear hK K
    obtain ⟨sx, hsx⟩ : ∃ sx, sx = s ++ [if true = true then 1 else 0] ++ p.pub ++ p.abv ++ Wm.enc ln := ⟨_, rfl⟩
    have HSL := Lib.hid (show sx.length ≤ 80100 by rw [hsx]; simp only [List.length_append, List.length_singleton]; have := HS.out; have := HLE.out; have := HOK.out.1; have := HOK.out.2; omega)
    rw [← hsx] at U6 HEQ
    have U7 : Hid (Pu w1 base b (sx ++ Tt.looseText (p.loose.take 0)) w6) := Lib.hid (by
      have := U6.out
      rw [List.take_zero]
      exact (List.append_nil sx).symm ▸ this)
    clear U6 hsx
    have c65 := pr_loose HOK.out (HBX.out _ _ U7.out)
    go_upto_region 6 with fail
    refine wp_region_lit ?_
    refine @BigFrame.wpList_want _ _ _ _ _ _ _ ?hw52051 ?_
    case hw52051 => kernel_rfl
    intro K hK
    go_simp
    refine hK _ _ ?_
    clear hK K
    refine @BigFrame.wpList_want _ _ _ _ _ _ _ ?hw52052 ?_
    case hw52052 => kernel_rfl
    intro K hK
    go_simp
    refine hK _ _ ?_
    clear hK K
    refine @BigFrame.wpList_want _ _ _ _ _ _ _ ?hw52053 ?_
    case hw52053 => kernel_rfl
    intro K hK
    go_simp
    refine hK _ _ ?_
    clear hK K
    refine @BigFrame.wpList_want _ _ _ _ _ _ _ ?hw52054 ?_
    case hw52054 => kernel_rfl
    intro K hK
    go_simp
    refine hK _ _ ?_
    clear hK K
    clear c65
    go_wp2
    go_loopw [29] (fun s29 wr => ∃ i : Nat, s29 = .int .i64 (i : Int) ∧ Hid (i ≤ ln) ∧ Hid (Pu w1 base b (sx ++ Tt.looseText (p.loose.take i)) wr)) (fun s29 _ => ln - (RowKit.intOf s29).toNat)
    case atStart => exact ⟨0, rfl, Lib.hid (Nat.zero_le _), U7⟩
    case round =>
      clear U7
      obtain ⟨i, rfl, hi, HU⟩ := hrel
      by_cases hlt : i < ln
      · have hiL : i < p.loose.length := by rw [← HLN.out]; exact hlt
        have hlti : (i : Int) < (ln : Int) := by omega
        have hi0 : ¬ (i : Int) < 0 := by omega
        obtain ⟨hsad, hcell⟩ := HNC.out _ _ (HK0.out _ _ HU.out) i hiL
        subst hsad
        obtain ⟨y, hy⟩ : ∃ y, y = p.loose[i] := ⟨_, rfl⟩
        obtain ⟨hy0, hy1⟩ := HLO.out _ (List.getElem_mem hiL)
        rw [← hy] at hcell hy0 hy1
        obtain ⟨yn, hyn⟩ : ∃ yn : Nat, y = (yn : Int) := ⟨y.toNat, by omega⟩
        have HTK := Lib.hid (show sx ++ Tt.looseText (p.loose.take i) ++ Wm.enc yn = sx ++ Tt.looseText (p.loose.take (i + 1)) by
          rw [List.take_succ_eq_append_getElem hiL, Tt.looseText_snoc, ← hy, hyn, Int.toNat_natCast, List.append_assoc])
        rw [hyn] at hcell
        have HTL := Lib.hid (show (sx ++ Tt.looseText (p.loose.take i)).length ≤ 100000 by
          have h1 := Tt.looseText_length (p.loose.take i)
          rw [List.length_take] at h1
          rw [List.length_append]
          have := HSL.out
          omega)
        have hyn9 : yn ≤ 64 := by omega
        have HNY := Lib.hid (HU.out.num yn (by omega) HTL.out)
        have HLT := Lib.hid hlt
        clear hlt hi hiL hy hy0 hy1 hyn hyn9
        go_upto_region 8 with fail
        refine wp_region_lit ?_
        refine @BigFrame.wpList_want _ _ _ _ _ _ _ ?hw52055 ?_
        case hw52055 => kernel_rfl
        intro K hK
        go_simp
        refine hK _ _ ?_
        clear hK K
        refine @BigFrame.wpList_want _ _ _ _ _ _ _ ?hw52056 ?_
        case hw52056 => kernel_rfl
        intro K hK
        go_simp
        refine hK _ _ ?_
        clear hK K
        refine @BigFrame.wpList_want _ _ _ _ _ _ _ ?hw52057 ?_
        case hw52057 => kernel_rfl
        intro K hK
        go_simp
        refine hK _ _ ?_
        clear hK K
        clear hcell
        go_upto_region 9 with fail
        refine wp_region_lit ?_
        refine @BigFrame.wpList_want _ _ _ _ _ _ _ ?hw52059 ?_
        case hw52059 => kernel_rfl
        intro K hK
        go_simp
        refine hK _ _ ?_
        clear hK K
        refine @BigFrame.wpList_want _ _ _ _ _ _ _ ?hw52060 ?_
        case hw52060 => kernel_rfl
        intro K hK
        go_simp
        refine hK _ _ ?_
        clear hK K
        refine @BigFrame.wpList_want _ _ _ _ _ _ _ ?hw52058 ?_
        case hw52058 => kernel_rfl
        intro K hK
        go_simp
        go_at_call 60
        refine (HNY.out).mono ?_
        rintro e w8 ⟨rfl, u8⟩
        rw [HTK.out] at u8
        have U8 := Lib.hid u8
        clear u8
        refine hK _ _ ?_
        clear hK K
        go_wp2
        go_roundw
        case rel => exact ⟨i + 1, by simp, Lib.hid HLT.out, U8⟩
        case measure => have := HLT.out; simp [RowKit.intOf]; omega
      · have hnl : ¬ (i : Int) < (ln : Int) := by omega
        have HE := Lib.hid (show p.loose.take i = p.loose by rw [List.take_of_length_le]; have := hi.out; have := HLN.out; omega)
        clear hlt hi
        go_wp2
        refine bodyPost_end (results_none rfl _ _ _) rfl ?_
        exact ⟨rfl, HK0.out _ _ (by have := HU.out; rw [HE.out, HEQ.out] at this; exact this)⟩

set_option maxRecDepth 100000 in
theorem written_calls (base b : Nat) (s : List UInt8) (w : World) (h : Wr w base b (some s)) : Calls Tryz.prog 63 #[.pointer (some ⟨b, 0, none⟩)] w fun e w' => e = .returned (.string (str s)) ∧ w' = w := by
  have HE := Lib.hid (wend_ok base b s w h)
  obtain ⟨ss, hss⟩ : ∃ ss, ss = str s := ⟨_, rfl⟩
  rw [← hss] at HE ⊢
  clear h hss
  go_enter Tryz.func63, Tryz.ntmps63
  go_wp2_with (go_at_call 107; refine HE.out.mono ?_; rintro e w' ⟨rfl, hw⟩; subst w')
  go_ret
  exact ⟨rfl, rfl⟩

end Go.Proofs.YtmmgekchfgmcdaaGreatDoor
