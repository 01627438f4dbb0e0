/-
  PrimBook; PrimSealB; PrimWrapB; PrimActs; PrimLearnMath; PrimPubB; PrimPlain: several texts in one.
-/
import Derived.Test.YtohichignjjleaaGM
import Derived.Test.YtohichignjjleaaGH
import Derived.Test.YtohichignjjleaaGN
import Derived.Test.YtohichignjjleaaGD
import Derived.Test.YtohichignjjleaaGA

namespace Go.Proofs.Ytohichignjjleaa
open Go.RowKit Go.Lib

abbrev Facts := List (List (List UInt8) × List (List UInt8))
/-- Block bb is a book of these facts, of at most n steps; none of its rows of digests lies in a block of X. -/
def InBk (w : World) (base bb : Nat) (fs : Facts) (n : Nat) (X : Nat → Prop) : Prop := ∃ n', n' ≤ n ∧ ∃ S, S.X = X ∧ Bok w base bb fs n' (fun _ => none) S
def InBook (w : World) (base bb : Nat) (fs : Facts) (n : Nat) : Prop := ∃ n', n' ≤ n ∧ ∃ S, Bok w base bb fs n' (fun _ => none) S
theorem InBk.kept {w w' : World} {base bb n : Nat} {fs : Facts} {X : Nat → Prop} (h : InBk w base bb fs n X) (k : Kept w.heap.size w.heap.size w w') : InBk w' base bb fs n X := by
  obtain ⟨n', h1, S, h2, h3⟩ := h
  exact ⟨n', h1, S, h2, h3.kept k⟩
theorem InBook.kept {w w' : World} {base bb n : Nat} {fs : Facts} (h : InBook w base bb fs n) (k : Kept w.heap.size w.heap.size w w') : InBook w' base bb fs n := by
  obtain ⟨n', h1, S, h3⟩ := h
  exact ⟨n', h1, S, h3.kept k⟩
theorem InBook.more {w : World} {base bb n m : Nat} {fs : Facts} (h : InBook w base bb fs n) (hm : n ≤ m) : InBook w base bb fs m := by
  obtain ⟨n', h1, h3⟩ := h
  exact ⟨n', Nat.le_trans h1 hm, h3⟩
theorem InBook.apart {w : World} {base bb n : Nat} {fs : Facts} (h : InBook w base bb fs n) (X : Nat → Prop) (hX : ∀ k, X k → w.heap.size ≤ k) : InBk w base bb fs n X := by
  obtain ⟨n', h1, S, h3⟩ := h
  exact ⟨n', h1, _, rfl, h3.fresh X hX⟩
theorem InBk.book {w : World} {base bb n : Nat} {fs : Facts} {X : Nat → Prop} (h : InBk w base bb fs n X) : InBook w base bb fs n := by
  obtain ⟨n', h1, S, _, h3⟩ := h
  exact ⟨n', h1, S, h3⟩
theorem InBk.put {w : World} {base bb n : Nat} {fs : Facts} {X : Nat → Prop} (h : InBk w base bb fs n X) (g : Nat) (hg : X g) (old cs : Array Value) (fr : Nat × Nat) (hold : w.heap[g]? = some (.cells old 26 fr)) : InBk (w.setRow g cs) base bb fs n X := by
  obtain ⟨n', h1, S, h2, h3⟩ := h
  exact ⟨n', h1, S, h2, h3.put g (by rw [h2]; exact hg) old cs fr hold⟩
theorem BkFr.row {base : Nat} {w w' : World} (h : BkFr base w w') {g : Nat} {cs : Array Value} {fr : Nat × Nat} (r : w.heap[g]? = some (.cells cs 26 fr)) : w'.heap[g]? = some (.cells cs 26 fr) := h.oth _ _ _ _ r (by decide) (by decide) (by decide)
theorem BkFr.put {base : Nat} {w w' : World} (h : BkFr base w w') (hb : base ≤ w.heap.size) (g : Nat) (hg : w.heap.size ≤ g) (cs : Array Value) : BkFr base w (w'.setRow g cs) :=
  ⟨Kept.ofBelow (below_setRow (h.kept.below (Nat.le_refl _) (Nat.le_refl _)) (Nat.le_trans hb hg) cs) (Nat.le_refl _), fun k xs t fr r h1 h2 h3 => by
    rw [setRow_other w' g k cs (fun e => by have := lt_of_block r; omega)]
    exact h.oth k xs t fr r h1 h2 h3⟩
/-- The bounds that a book keeps. -/
def Mild (fs : Facts) (n : Nat) : Prop := n < 1000000 ∧ fs.length < 1000000 ∧ ∀ f ∈ fs, f.1.length < 1000000 ∧ f.2.length < 1000000

set_option maxRecDepth 100000 in
set_option maxHeartbeats 3200000 in
/-- What one secret makes, noted. -/
theorem pnote_book (base bb n : Nat) (fs : Facts) (X : Nat → Prop) (x : List UInt8) (hx : x.length = 32) (outs : List (List UInt8)) (g c : Nat) (b : Value) (w : World) (hB : InBk w base bb fs n X) (hbase : base ≤ w.heap.size) (hX : ∀ k, X k → k < w.heap.size) (hm : Mild fs n) (ho : outs.length < 1000000)
    (hg : w.heap[g]? = some (.cells (bcells x).toArray 26 (0, 0))) (hb : Hs w b outs) (hw : Whole b) :
    Calls Try.prog 39 #[.pointer (some ⟨bb, 0, none⟩), .slice (some ⟨g, 0, none⟩) 1 c, b] w fun e w' => e = .returned (.tuple #[]) ∧ InBk w' base bb (Bk.note fs ([x], outs)) (n + 3) X ∧ BkFr base w w' := by
  have hn : Calls Try.prog 67 #[.pointer (some ⟨bb, 0, none⟩), .agg #[.slice (some ⟨g, 0, none⟩) 1 c, b]] w fun e w' => (∃ E : Int, e = .returned (.int .i64 E)) ∧ InBk w' base bb (Bk.note fs ([x], outs)) (n + 3) X ∧ BkFr base w w' := by
    obtain ⟨n', h1, S, h2, h3⟩ := hB
    obtain ⟨m1, m2, m3⟩ := hm
    refine (note_callsX base bb n' fs (fun _ => none) S ([x], outs) _ b w h3 hbase (hs_one hx hg) hb (fun _ _ e => by cases e) hw (fun w' hf => hs_one hx (hf.row hg)) (by omega) m2 m3 (by show 1 < _; decide) ho (by rw [h2]; exact hX)).mono ?_
    rintro e w' ⟨rfl, ⟨n2, hn2, S2, hS2, hB2⟩, hf⟩
    have hl : ([x] : List (List UInt8)).length = 1 := rfl
    refine ⟨⟨_, rfl⟩, ⟨n2, ?_, S2, hS2.trans h2, hB2⟩, hf⟩
    have : n2 ≤ n' + 1 + 2 := hn2
    omega
  obtain ⟨zp1, bad, bg, bo, bc, rfl, zp2⟩ := id hb
  clear zp1 zp2 hB hbase hX hm ho hg hb hw
  have HN := Lib.hid hn
  clear hn
  go_enter Try.func39, Try.ntmps39
  go_wp2_with (go_at_call 67; refine HN.out.mono ?_; rintro e w2 ⟨⟨E, rfl⟩, k2, f2⟩)
  go_end0
  exact ⟨rfl, k2, f2⟩

end Go.Proofs.Ytohichignjjleaa

namespace Go.Proofs.Ytohichignjjleaa
open Go.RowKit Go.Lib

set_option maxRecDepth 100000 in
set_option maxHeartbeats 6400000 in
theorem seal_book (base bb n : Nat) (fs : Facts) (k : List UInt8) (hk : Hid (k.length = 32)) (about : ByteArray) (h1 : Hid (about.size < 268435456)) (s : List UInt8) (hs : Hid (s.length ≤ 65536)) (secs : List (List UInt8)) (sv : Value) (w : World) (hB : InBook w base bb fs n) (hbase : base ≤ w.heap.size) (hm : Mild fs n) (hsv : Hs w sv secs) (hsw : Whole sv) (hsn : secs.length < 1000000) : Calls Try.prog 13 #[.pointer (some ⟨bb, 0, none⟩), .agg (bcells k).toArray, .string about, .string (str s), sv] w fun e w' => e = .returned (.string (str (Pm.sealed k about.data.toList s))) ∧ InBook w' base bb (Bk.note fs ([k], secs)) (n + 3) ∧ BkFr base w w' := by
  obtain ⟨fs2, hfs2⟩ : ∃ fs2, fs2 = Bk.note fs ([k], secs) := ⟨_, rfl⟩
  rw [← hfs2]
  obtain ⟨zp1, sad, sg, so, scp, rfl, zp2⟩ := id hsv
  clear zp1 zp2
  have hku := keyInfo hk.out
  generalize hkc : (bcells k).toArray = kc at hku
  have Hkc := Lib.hid hkc
  have HKI := Lib.hid hku
  have hd : decide ((65536 : Int) < ((str s).size : Int)) = false := decide_eq_false (by rw [str_size]; have := hs.out; omega)
  have hn64 : (str s).size ≤ 65536 := by rw [str_size]; exact hs.out
  have hmk : ∀ w', Calls Try.prog 45 #[.agg kc, .string (str s)] w' fun e w2 => ∃ g, e = .returned (.slice (some ⟨g, 0, none⟩) (str s).size (str s).size) ∧ w'.heap.size ≤ g ∧ w2.heap[g]? = some (.cells (bcells (Pm.cross k s)).toArray 5 (0, 0)) ∧ Kept w'.heap.size w'.heap.size w' w2 := fun w' => by
    rw [← Hkc.out]
    have := masked_calls k hk s hs w'
    rw [← str_size s] at this
    exact this
  have hcl : (Pm.cross k s).length = (str s).size := by rw [Pm.cross_length, str_size]
  have htg : ∀ w', Calls Try.prog 46 #[.agg kc, .string about, .string (str (Pm.cross k s))] w' fun e w'' => e = .returned (.agg (bcells (Pm.tag k about.data.toList (Pm.cross k s))).toArray) ∧ Kept w'.heap.size w'.heap.size w' w'' := fun w' => by
    rw [← Hkc.out]
    exact tagof_calls k hk about (str (Pm.cross k s)) h1 (Lib.hid (by rw [str_size, hcl]; omega)) w'
  have htl : (Pm.tag k about.data.toList (Pm.cross k s)).length = 16 := Pm.tag_length _ _ _
  have hsd : Pm.sealed k about.data.toList s = Pm.cross k s ++ Pm.tag k about.data.toList (Pm.cross k s) := rfl
  rw [hsd]
  generalize Pm.tag k about.data.toList (Pm.cross k s) = tg at htg htl ⊢
  generalize Pm.cross k s = cr at hmk hcl htg ⊢
  generalize str s = sx at hd hn64 hmk hcl ⊢
  obtain ⟨res, hres⟩ : ∃ res, res = str (cr ++ tg) := ⟨_, rfl⟩
  rw [← hres]
  obtain ⟨sc, hsc⟩ : ∃ sc, sc = str cr := ⟨_, rfl⟩
  rw [← hsc] at htg
  have hti : (Try.prog.info? 93).map (·.size) = some (bcells tg).toArray.size := by rw [tagInfo, List.size_toArray, bcells_length, htl]
  have htz : zeros16.size = (bcells tg).toArray.size := by rw [zeros16_size, List.size_toArray, bcells_length, htl]
  have hta := bcells_all tg
  generalize hct : (bcells tg).toArray = ct at htg hti htz hta
  obtain ⟨i8, hi8, hz8, hs8, hb8⟩ := sha_u8
  have HI8 := Lib.hid hi8
  have HZ8 := Lib.hid hz8
  have HS8 := Lib.hid hs8
  have HB8 := Lib.hid hb8
  have HMK := Lib.hid hmk
  have HCL := Lib.hid hcl
  have HTG := Lib.hid htg
  have HTL := Lib.hid htl
  have HTI := Lib.hid hti
  have HTZ := Lib.hid htz
  have HTA := Lib.hid hta
  have HRES := Lib.hid hres
  have HSC := Lib.hid hsc
  have HCT := Lib.hid hct
  clear hkc hku hmk hcl htg htl hti htz hta hct hi8 hz8 hs8 hb8 hsd hres hsc
  have hk32 : (kc).size = 32 := by rw [← Hkc.out, List.size_toArray, bcells_length, hk.out]
  have HK32 := Lib.hid hk32
  have hpn : ∀ (w' : World) (g : Nat), InBook w' base bb fs n → base ≤ w'.heap.size → w'.heap[g]? = some (.cells kc 26 (0, 0)) → Hs w' (.slice sad secs.length scp) secs → Calls Try.prog 39 #[.pointer (some ⟨bb, 0, none⟩), .slice (some ⟨g, 0, none⟩) 1 1, .slice sad secs.length scp] w' fun e w'' => e = .returned (.tuple #[]) ∧ InBook w'' base bb fs2 (n + 3) ∧ BkFr base w' w'' := fun w' g hI hb1 hg hh => by
    rw [hfs2]
    refine (pnote_book base bb n fs (fun _ => False) k hk.out secs g 1 _ w' (hI.apart _ (fun _ h => h.elim)) hb1 (fun _ h => h.elim) hm hsn (by rw [Hkc.out]; exact hg) hh hsw).mono ?_
    rintro e w2 ⟨h1, h2, h3⟩
    exact ⟨h1, h2.book, h3⟩
  have hnil : secs.length = 0 → fs2 = fs := fun hz => by
    rw [hfs2]
    unfold Bk.note
    rw [if_pos hz]
  have HPN := Lib.hid hpn
  have HNIL := Lib.hid hnil
  have HB := Lib.hid hB
  have HBASE := Lib.hid hbase
  have HSV := Lib.hid hsv
  obtain ⟨i0, z0, hi0, hz0, hzs0, hs0, hb0⟩ := hash_info
  have HI0 := Lib.hid hi0
  have HZ0 := Lib.hid hz0
  have HS0 := Lib.hid hs0
  clear hi0 hz0 hzs0 hs0 hb0 hpn hnil hB hbase hsv hm hsw hfs2 hk32
  go_enter Try.func13, Try.ntmps13
  go_upto_region 3 with fail
  have hP : (w.alloc (.cells kc 26)).heap[w.heap.size]? = some (.cells kc 26 (0, 0)) := heap_new _ _
  have k0 : Kept w.heap.size w.heap.size w (w.alloc (.cells kc 26)) := (Kept.refl _ _ _).alloc (Nat.le_refl _) _
  generalize w.alloc (.cells kc 26) = w1 at hP k0 ⊢
  obtain ⟨wa, hwa⟩ : ∃ wa, wa = w.heap.size := ⟨_, rfl⟩
  rw [← hwa] at hP ⊢
  have HWA := Lib.hid hwa
  clear hwa
  by_cases hz : secs.length = 0
  · have k1 : ∀ w', Kept w1.heap.size w1.heap.size w1 w' → InBook w' base bb fs2 (n + 3) ∧ BkFr base w w' := fun w' kk => by
      have e := HWA.out
      have kw : Kept w.heap.size w.heap.size w w' := k0.trans (kk.mono k0.size (fun i hi _ => by have := k0.size; omega))
      rw [HNIL.out hz]
      exact ⟨(HB.out.kept kw).more (by omega), BkFr.ofKept HBASE.out kw⟩
    clear k0
    go_upto_region 5 with fail
    clear hz
    refine wp_region_lit ?_
    refine @BigFrame.wpList_want _ _ _ _ _ _ _ ?hwa0 ?_
    case hwa0 => kernel_rfl
    intro K hK
    go_simp
    refine hK _ _ ?_
    clear hK K
    refine @BigFrame.wpList_want _ _ _ _ _ _ _ ?hwa1 ?_
    case hwa1 => kernel_rfl
    intro K hK
    go_simp
    refine hK _ _ ?_
    clear hK K
    refine @BigFrame.wpList_want _ _ _ _ _ _ _ ?hwa2 ?_
    case hwa2 => kernel_rfl
    intro K hK
    go_simp
    try go_bits
    refine hK _ _ ?_
    clear hK K
    refine wpList_make_row w1 rfl _ _ 45 rfl 5 i8 (.int .u8 0) Try.underlying45 HI8.out HZ8.out HS8.out rfl .i64 .i64 (sx.size + 16) (by rw [Int.natCast_add]; rfl) (by rw [Int.natCast_add]; rfl) (by rw [HB8.out]; omega) (by omega) ?_
    simp only [Act.put, List.setIfInBounds_toArray, List.set_cons_zero, List.set_cons_succ]
    refine @BigFrame.wpList_want _ _ _ _ _ _ _ ?hwa4 ?_
    case hwa4 => kernel_rfl
    intro K hK
    go_simp
    refine hK _ _ ?_
    clear hK K
    have hG : (w1.alloc (.cells (madeCells #[.int .u8 0] (sx.size + 16)) 5)).heap[w1.heap.size]? = some (.cells (madeCells #[.int .u8 0] (sx.size + 16)) 5 (0, 0)) := heap_new _ _
    have k2 : Kept w1.heap.size w1.heap.size w1 (w1.alloc (.cells (madeCells #[.int .u8 0] (sx.size + 16)) 5)) := (Kept.refl _ _ _).alloc (Nat.le_refl _) _
    have hmc : (madeCells #[Value.int .u8 0] (sx.size + 16)).size = sx.size + 16 := size_madeCells _ _
    have hP2 := (k2.block _ (lt_of_block hP) (Nat.ne_of_lt (lt_of_block hP))).trans hP
    generalize hzc : madeCells #[Value.int .u8 0] (sx.size + 16) = zc at hG k2 hmc hP2 ⊢
    rw [made_bytes] at hzc
    have HZC := Lib.hid hzc
    clear hzc
    generalize w1.alloc (.cells zc 5) = w2 at hG k2 hP2 ⊢
    obtain ⟨g, hg⟩ : ∃ g, g = w1.heap.size := ⟨_, rfl⟩
    rw [← hg] at hG ⊢
    have HP2 := Lib.hid hP2
    have HG := Lib.hid hG
    have HK2 := Lib.hid k2
    have HK1 := Lib.hid k1
    have HWG := Lib.hid hg
    have HMC := Lib.hid hmc
    clear hP2 hG k2 k1 hg hmc hP
    go_upto_region 6 with fail
    refine wp_region_lit ?_
    refine @BigFrame.wpList_want _ _ _ _ _ _ _ ?hwb0 ?_
    case hwb0 => kernel_rfl
    intro K hK
    go_simp
    refine hK _ _ ?_
    clear hK K
    refine wpList_load_row_g ?hwb1 26 _ rfl (wa) rfl 26 kc (0, 0) _ (HP2.out) Try.underlying26 rfl HKI.out ?_
    case hwb1 => kernel_rfl
    simp only [Act.put, List.setIfInBounds_toArray, List.set_cons_zero, List.set_cons_succ]
    refine @BigFrame.wpList_want _ _ _ _ _ _ _ ?hwb2 ?_
    case hwb2 => kernel_rfl
    intro K hK
    go_simp
    refine hK _ _ ?_
    clear hK K
    refine @BigFrame.wpList_want _ _ _ _ _ _ _ ?hwb3 ?_
    case hwb3 => kernel_rfl
    intro K hK
    go_simp
    go_at_call 45; refine (HMK.out _).mono ?_; rintro e w4 ⟨gm, rfl, hgm, hrm, k4⟩
    refine hK _ _ ?_
    clear hK K
    have g4 : w4.heap[g]? = some (.cells zc 5 (0, 0)) := (k4.block _ (lt_of_block HG.out) (Nat.ne_of_lt (lt_of_block HG.out))).trans HG.out
    have hcp := run_copy_row (P := Try.prog) w4 45 45 3 5 g 0 (sx.size + 16) (sx.size + 16) ⟨gm, 0, none⟩ sx.size sx.size zc 5 (bcells cr) Try.underlying45 byteInfo1 g4 (by rw [bcells_length, HCL.out]; exact (Nat.min_eq_left (Nat.le_add_right _ _)).symm) (fun j v hj => by rw [Addr.add_lit, Nat.zero_add]; exact cells_get hrm hj) (by rw [bcells_length, HCL.out, HMC.out]; omega) (bcells_one _)
    obtain ⟨zt, hzt⟩ : ∃ zt, zt = zc.toList.drop (0 + (bcells cr).length) := ⟨_, rfl⟩
    have hzb : zt = bcells (List.replicate 16 0) := by rw [hzt, ← HZC.out, List.toList_toArray, bcells_length, HCL.out, bcells, ← List.map_drop, List.drop_replicate, show sx.size + 16 - (0 + sx.size) = 16 by omega]; rfl
    rw [List.take_zero, List.nil_append, ← hzt, hzb, ← bcells_append] at hcp
    obtain ⟨row, hrow⟩ : ∃ row, row = cr ++ List.replicate 16 0 := ⟨_, rfl⟩
    rw [← hrow] at hcp
    have HROW := Lib.hid hrow
    clear hrow
    have r5 := setRow_heap w4 g zc (bcells row).toArray _ _ g4
    have k14 := HK2.out.trans (k4.mono HK2.out.size (fun i hi _ => by have := HK2.out.size; omega))
    have k5 : Kept w1.heap.size w1.heap.size w1 (w4.setRow g (bcells row).toArray) := by
      have e := HWG.out
      exact Kept.ofBelow (below_setRow (k14.below (Nat.le_refl _) (Nat.le_refl _)) (by omega) _) (Nat.le_refl _)
    have p5 : (w4.setRow g (bcells row).toArray).heap[wa]? = some (.cells kc 26 (0, 0)) := by
      have p4 := (k4.block _ (lt_of_block HP2.out) (Nat.ne_of_lt (lt_of_block HP2.out))).trans HP2.out
      have hne : wa ≠ g := fun e => by
        subst e
        rw [g4] at p4
        injection p4 with p4
        injection p4 with _ p5 _
        exact absurd p5 (by decide)
      rw [setRow_other w4 g wa _ hne]
      exact p4
    generalize hw5 : w4.setRow g (bcells row).toArray = w5 at hcp r5 k5 p5
    have Hcp := Lib.hid hcp
    have HR5 := Lib.hid r5
    have HK5 := Lib.hid k5
    have HP5 := Lib.hid p5
    clear hcp r5 k5 p5 hzb g4 k14 k4 hrm hgm hzt hw5
    go_wp2_with fail
    rw [Hcp.out]
    have hld : ∀ w', Kept w5.heap.size w5.heap.size w5 w' → (loadVar 26 ⟨wa, 0, none⟩).run Try.prog w' = .ok (.agg kc) w' ∧ (convert 45 9 (.slice (some ⟨g, 0, none⟩) sx.size (sx.size + 16))).run Try.prog w' = .ok (.string sc) w' := fun w' kk => by
      have hrow := (kk.block _ (lt_of_block HR5.out) (Nat.ne_of_lt (lt_of_block HR5.out))).trans HR5.out
      refine ⟨run_loadVar_row w' wa 26 26 kc (0, 0) _ ((kk.block _ (lt_of_block HP5.out) (Nat.ne_of_lt (lt_of_block HP5.out))).trans HP5.out) Try.underlying26 rfl HKI.out, ?_⟩
      rw [HSC.out]
      exact conv_block hrow cr sx.size (by rw [HROW.out, List.take_append_of_le_length (by rw [HCL.out]; exact Nat.le_refl _), List.take_of_length_le (by rw [HCL.out]; exact Nat.le_refl _)]) HCL.out _
    have HLD := Lib.hid hld
    clear hld
    have hb1 : (sx.size : Int) ≤ (sx.size : Int) + 16 := by omega
    go_upto_region 7 with fail
    refine wp_region_noPanic ?_
    refine wp_region_held_drew (S := fun w' => Kept w5.heap.size w5.heap.size w5 w') (by kernel_rfl) ((Kept.refl _ _ _).drew) (fun hH => ?_)
    refine wpAnyH_take_at (i := 0) 33 (.agg kc) rfl rfl (by kernel_rfl) (by kernel_rfl) (by kernel_rfl) (fun _ _ _ h => h) (yieldsIf_load_known (by rfl) 26 _ rfl (wa) (0) rfl (.agg kc) (fun w' hw' => (HLD.out w' hw').1)) hH ?_
    simp only [List.setIfInBounds_toArray, List.set_cons_zero, List.set_cons_succ]
    refine wpAnyH_take_at (i := 1) 34 (.string about) rfl rfl (by kernel_rfl) (by kernel_rfl) (by kernel_rfl) (fun _ _ _ h => h) (.inl ⟨by rfl, fun w9 _ => by go_simp⟩) hH ?_
    simp only [List.setIfInBounds_toArray, List.set_cons_zero, List.set_cons_succ]
    refine wpAnyH_take_at (i := 2) 35 (.slice (some ⟨g, 0, none⟩) (sx.size + 16) (sx.size + 16)) rfl rfl (by kernel_rfl) (by kernel_rfl) (by kernel_rfl) (fun _ _ _ h => h) (.inl ⟨by rfl, fun w9 _ => by go_simp⟩) hH ?_
    simp only [List.setIfInBounds_toArray, List.set_cons_zero, List.set_cons_succ]
    refine wpAnyH_take_at (i := 3) 36 (.string sx) rfl rfl (by kernel_rfl) (by kernel_rfl) (by kernel_rfl) (fun _ _ _ h => h) (.inl ⟨by rfl, fun w9 _ => by go_simp⟩) hH ?_
    simp only [List.setIfInBounds_toArray, List.set_cons_zero, List.set_cons_succ]
    refine wpAnyH_take_at (i := 4) 37 (.int .i64 (sx.size : Int)) rfl rfl (by kernel_rfl) (by kernel_rfl) (by kernel_rfl) (fun _ _ _ h => h) (.inl ⟨by rfl, fun w9 _ => by go_simp⟩) hH ?_
    simp only [List.setIfInBounds_toArray, List.set_cons_zero, List.set_cons_succ]
    refine wpAnyH_take_at (i := 5) 38 (.slice (some ⟨g, 0, none⟩) sx.size (sx.size + 16)) rfl rfl (by kernel_rfl) (by kernel_rfl) (by kernel_rfl) (fun _ _ _ h => h) (.inl ⟨by rfl, fun w9 _ => by go_simp⟩) hH ?_
    simp only [List.setIfInBounds_toArray, List.set_cons_zero, List.set_cons_succ]
    refine wpAnyH_take_at (i := 6) 39 (.string sc) rfl rfl (by kernel_rfl) (by kernel_rfl) (by kernel_rfl) (fun _ _ _ h => h) (.inl ⟨by rfl, fun w9 h9 => by have h8 := (HLD.out w9 h9).2; go_simp⟩) hH ?_
    simp only [List.setIfInBounds_toArray, List.set_cons_zero, List.set_cons_succ]
    refine wpAnyH_ready (rs := [7, 8]) (by kernel_rfl) (by simp) ?_
    refine AllReadyH.cons rfl (fun K hK => ?_) ?_
    · rw [if_pos (by rfl)]
      go_simp
      go_wp2_with (go_at_call 46; refine (HTG.out _).mono ?_; rintro e w6 ⟨rfl, k6⟩)
      have KA : Kept w5.heap.size w5.heap.size w5 w6 := (Kept.refl _ _ _).drew.trans k6
      refine hK.out _ _ (KA) (fun hH => ?_)
      clear hK K
      refine wpAnyH_ready (rs := [8]) (by kernel_rfl) (by simp) ?_
      refine AllReadyH.cons rfl (fun K hK => ?_) AllReadyH.nil
      rw [if_pos (by rfl)]
      go_simp
      rw [zeros16_eq]
      have KB : Kept w5.heap.size w5.heap.size w5 (w6.alloc (.cells zeros16 93)) := KA.alloc KA.size _
      have HWT : Hid (w5.heap.size ≤ w6.heap.size) := Lib.hid KA.size
      refine hK.out _ _ (KB) (fun hH => ?_)
      clear hK K
      refine wpAnyH_ready (rs := [9]) (by kernel_rfl) (by simp) ?_
      refine AllReadyH.cons rfl (fun K hK => ?_) AllReadyH.nil
      rw [if_pos (by rfl)]
      refine wp_store_row 93 _ _ rfl (w6.heap.size) ct rfl rfl 93 zeros16 (heap_new _ _) HTI.out HTZ.out HTA.out ?_
      have KS : Kept w5.heap.size w5.heap.size w5 ((w6.alloc (.cells zeros16 93)).setRow (w6.heap.size) ct) := Kept.ofBelow (below_setRow (KB.below (Nat.le_refl _) (Nat.le_refl _)) HWT.out ct) (Nat.le_refl _)
      have tS := setRow_heap (w6.alloc (.cells zeros16 93)) (w6.heap.size) zeros16 ct _ _ (heap_new _ _)
      refine hK.out _ _ (KS) (fun hH => ?_)
      clear hK K
      refine wpAnyH_done (by kernel_rfl) ?_ _
      refine NoPanic.normal ?_
      generalize (w6.alloc (.cells zeros16 93)).setRow (w6.heap.size) ct = w8 at KS tS ⊢
      have r8 := (KS.block _ (lt_of_block HR5.out) (Nat.ne_of_lt (lt_of_block HR5.out))).trans HR5.out
      have hWT := HWT.out
      generalize (w6.heap.size) = wt at tS hWT ⊢
      have HKS := Lib.hid KS
      have HTS := Lib.hid tS
      have HR8 := Lib.hid r8
      clear KS tS r8 hWT
      go_upto_region 8 with fail
      refine wp_region_still_tail 5 (by kernel_rfl) (by kernel_rfl) ?_
      simp only [List.take_succ_cons, List.take_zero, List.drop_succ_cons, List.drop_zero]
      generalize hw9 : ({ heap := w8.heap, tape := w8.tape, drawn := w8.drawn + 1, os := w8.os, output := w8.output } : World) = wd
      have rd : wd.heap[g]? = some (.cells (bcells row).toArray 5 (0, 0)) := by rw [← hw9]; exact HR8.out
      have td : wd.heap[wt]? = some (.cells ct 93 (0, 0)) := by rw [← hw9]; exact HTS.out
      have kd : Kept w5.heap.size w5.heap.size w5 wd := by rw [← hw9]; exact HKS.out.drew
      have hrl : row.length = sx.size + 16 := by rw [HROW.out, List.length_append, HCL.out, List.length_replicate]
      have hcp := run_copy_row (P := Try.prog) wd 45 45 3 5 g sx.size 16 16 ⟨wt, 0, none⟩ 16 16 (bcells row).toArray 5 (bcells tg) Try.underlying45 byteInfo1 rd (by rw [bcells_length, HTL.out]; rfl) (fun j v hj => by
        rw [Addr.add_lit, Nat.zero_add]
        have tdb := td
        rw [← HCT.out] at tdb
        exact cells_get tdb hj) (by rw [bcells_length, HTL.out, List.size_toArray, bcells_length, hrl]; exact Nat.le_refl _) (bcells_one _)
      have hfin : ((bcells row).toArray.toList.take sx.size ++ bcells tg ++ (bcells row).toArray.toList.drop (sx.size + (bcells tg).length)).toArray = (bcells (cr ++ tg)).toArray := by
        rw [List.toList_toArray, bcells_length, HTL.out, List.drop_of_length_le (by rw [bcells_length, hrl]; exact Nat.le_refl _), List.append_nil, HROW.out, bcells_append, List.take_append_of_le_length (by rw [bcells_length, HCL.out]; exact Nat.le_refl _), List.take_of_length_le (by rw [bcells_length, HCL.out]; exact Nat.le_refl _), bcells_append]
      rw [hfin] at hcp
      have rf := setRow_heap wd g _ (bcells (cr ++ tg)).toArray _ _ rd
      have k15 : Kept w1.heap.size w1.heap.size w1 wd := HK5.out.trans (kd.mono HK5.out.size (fun i hi _ => by have := HK5.out.size; omega))
      have kf : Kept w1.heap.size w1.heap.size w1 (wd.setRow g (bcells (cr ++ tg)).toArray) := by
        have e := HWG.out
        exact Kept.ofBelow (below_setRow (k15.below (Nat.le_refl _) (Nat.le_refl _)) (by omega) _) (Nat.le_refl _)
      generalize wd.setRow g (bcells (cr ++ tg)).toArray = wf at hcp rf kf
      have cv : (convert 45 9 (.slice (some ⟨g, 0, none⟩) (sx.size + 16) (sx.size + 16))).run Try.prog wf = .ok (.string res) wf := by
        rw [HRES.out]
        exact conv_block rf (cr ++ tg) (sx.size + 16) (by rw [List.take_of_length_le (by rw [List.length_append, HCL.out, HTL.out]; exact Nat.le_refl _)]) (by rw [List.length_append, HCL.out, HTL.out]) _
      have Hcp2 := Lib.hid hcp
      have HKF := Lib.hid kf
      clear hw9 rd td kd hrl hcp hfin rf k15 kf
      iterate 5 still_step
      refine wpStill_nil ?_
      go_wp2_with fail
      rw [Hcp2.out]
      go_wp2
      go_ret
      exact ⟨rfl, HK1.out _ HKF.out⟩
    · refine AllReadyH.cons rfl (fun K hK => ?_) AllReadyH.nil
      rw [if_pos (by rfl)]
      go_simp
      rw [zeros16_eq]
      have KA : Kept w5.heap.size w5.heap.size w5 (w5.drew.alloc (.cells zeros16 93)) := (Kept.refl _ _ _).drew.alloc (Nat.le_refl _) _
      have tA : (w5.drew.alloc (.cells zeros16 93)).heap[w5.heap.size]? = some (.cells zeros16 93 (0, 0)) := heap_new _ _
      refine hK.out _ _ (KA) (fun hH => ?_)
      clear hK K
      refine wpAnyH_ready (rs := [7]) (by kernel_rfl) (by simp) ?_
      refine AllReadyH.cons rfl (fun K hK => ?_) AllReadyH.nil
      rw [if_pos (by rfl)]
      go_simp
      go_wp2_with (go_at_call 46; refine (HTG.out _).mono ?_; rintro e w6 ⟨rfl, k6⟩)
      have KB : Kept w5.heap.size w5.heap.size w5 w6 := KA.trans (k6.mono KA.size (fun i hi _ => Nat.ne_of_lt (Nat.lt_of_lt_of_le hi KA.size)))
      have tB := (k6.block _ (lt_of_block tA) (Nat.ne_of_lt (lt_of_block tA))).trans tA
      have HWT : Hid (w5.heap.size ≤ w5.heap.size) := Lib.hid (Nat.le_refl _)
      refine hK.out _ _ (KB) (fun hH => ?_)
      clear hK K
      refine wpAnyH_ready (rs := [9]) (by kernel_rfl) (by simp) ?_
      refine AllReadyH.cons rfl (fun K hK => ?_) AllReadyH.nil
      rw [if_pos (by rfl)]
      refine wp_store_row 93 _ _ rfl (w5.heap.size) ct rfl rfl 93 zeros16 (tB) HTI.out HTZ.out HTA.out ?_
      have KS : Kept w5.heap.size w5.heap.size w5 ((w6).setRow (w5.heap.size) ct) := Kept.ofBelow (below_setRow (KB.below (Nat.le_refl _) (Nat.le_refl _)) HWT.out ct) (Nat.le_refl _)
      have tS := setRow_heap (w6) (w5.heap.size) zeros16 ct _ _ (tB)
      refine hK.out _ _ (KS) (fun hH => ?_)
      clear hK K
      refine wpAnyH_done (by kernel_rfl) ?_ _
      refine NoPanic.normal ?_
      generalize (w6).setRow (w5.heap.size) ct = w8 at KS tS ⊢
      have r8 := (KS.block _ (lt_of_block HR5.out) (Nat.ne_of_lt (lt_of_block HR5.out))).trans HR5.out
      have hWT := HWT.out
      generalize (w5.heap.size) = wt at tS hWT ⊢
      have HKS := Lib.hid KS
      have HTS := Lib.hid tS
      have HR8 := Lib.hid r8
      clear KS tS r8 hWT
      go_upto_region 8 with fail
      refine wp_region_still_tail 5 (by kernel_rfl) (by kernel_rfl) ?_
      simp only [List.take_succ_cons, List.take_zero, List.drop_succ_cons, List.drop_zero]
      generalize hw9 : ({ heap := w8.heap, tape := w8.tape, drawn := w8.drawn + 1, os := w8.os, output := w8.output } : World) = wd
      have rd : wd.heap[g]? = some (.cells (bcells row).toArray 5 (0, 0)) := by rw [← hw9]; exact HR8.out
      have td : wd.heap[wt]? = some (.cells ct 93 (0, 0)) := by rw [← hw9]; exact HTS.out
      have kd : Kept w5.heap.size w5.heap.size w5 wd := by rw [← hw9]; exact HKS.out.drew
      have hrl : row.length = sx.size + 16 := by rw [HROW.out, List.length_append, HCL.out, List.length_replicate]
      have hcp := run_copy_row (P := Try.prog) wd 45 45 3 5 g sx.size 16 16 ⟨wt, 0, none⟩ 16 16 (bcells row).toArray 5 (bcells tg) Try.underlying45 byteInfo1 rd (by rw [bcells_length, HTL.out]; rfl) (fun j v hj => by
        rw [Addr.add_lit, Nat.zero_add]
        have tdb := td
        rw [← HCT.out] at tdb
        exact cells_get tdb hj) (by rw [bcells_length, HTL.out, List.size_toArray, bcells_length, hrl]; exact Nat.le_refl _) (bcells_one _)
      have hfin : ((bcells row).toArray.toList.take sx.size ++ bcells tg ++ (bcells row).toArray.toList.drop (sx.size + (bcells tg).length)).toArray = (bcells (cr ++ tg)).toArray := by
        rw [List.toList_toArray, bcells_length, HTL.out, List.drop_of_length_le (by rw [bcells_length, hrl]; exact Nat.le_refl _), List.append_nil, HROW.out, bcells_append, List.take_append_of_le_length (by rw [bcells_length, HCL.out]; exact Nat.le_refl _), List.take_of_length_le (by rw [bcells_length, HCL.out]; exact Nat.le_refl _), bcells_append]
      rw [hfin] at hcp
      have rf := setRow_heap wd g _ (bcells (cr ++ tg)).toArray _ _ rd
      have k15 : Kept w1.heap.size w1.heap.size w1 wd := HK5.out.trans (kd.mono HK5.out.size (fun i hi _ => by have := HK5.out.size; omega))
      have kf : Kept w1.heap.size w1.heap.size w1 (wd.setRow g (bcells (cr ++ tg)).toArray) := by
        have e := HWG.out
        exact Kept.ofBelow (below_setRow (k15.below (Nat.le_refl _) (Nat.le_refl _)) (by omega) _) (Nat.le_refl _)
      generalize wd.setRow g (bcells (cr ++ tg)).toArray = wf at hcp rf kf
      have cv : (convert 45 9 (.slice (some ⟨g, 0, none⟩) (sx.size + 16) (sx.size + 16))).run Try.prog wf = .ok (.string res) wf := by
        rw [HRES.out]
        exact conv_block rf (cr ++ tg) (sx.size + 16) (by rw [List.take_of_length_le (by rw [List.length_append, HCL.out, HTL.out]; exact Nat.le_refl _)]) (by rw [List.length_append, HCL.out, HTL.out]) _
      have Hcp2 := Lib.hid hcp
      have HKF := Lib.hid kf
      clear hw9 rd td kd hrl hcp hfin rf k15 kf
      iterate 5 still_step
      refine wpStill_nil ?_
      go_wp2_with fail
      rw [Hcp2.out]
      go_wp2
      go_ret
      exact ⟨rfl, HK1.out _ HKF.out⟩
  · have hd0 : 0 < secs.length := by omega
    have hB1 := HB.out.kept k0
    have hV1 := HSV.out.kept k0
    have ka : Kept w1.heap.size w1.heap.size w1 (w1.alloc (.cells kc 26)) := (Kept.refl _ _ _).alloc (Nat.le_refl _) _
    have hPa := (ka.block _ (lt_of_block hP) (Nat.ne_of_lt (lt_of_block hP))).trans hP
    have b1 : base ≤ w1.heap.size := Nat.le_trans HBASE.out k0.size
    have hcall := HPN.out (w1.alloc (.cells kc 26)) w1.heap.size (hB1.kept ka) (Nat.le_trans b1 ka.size) (heap_new _ _) (hV1.kept ka)
    have HCALL := Lib.hid hcall
    have HKA := Lib.hid ka
    have HPA := Lib.hid hPa
    have HK0 := Lib.hid k0
    have HP := Lib.hid hP
    have B1 := Lib.hid b1
    clear hcall ka hPa k0 hB1 hV1 b1 hz hP
    go_upto_region 4 with fail
    clear hd0
    refine wp_region_lit ?_
    refine @BigFrame.wpList_want _ _ _ _ _ _ _ ?hwn0 ?_
    case hwn0 => kernel_rfl
    intro K hK
    go_simp
    refine hK _ _ ?_
    clear hK K
    refine wpList_load_row_g ?hwn1 26 _ rfl (wa) rfl 26 kc (0, 0) _ (HP.out) Try.underlying26 rfl HKI.out ?_
    case hwn1 => kernel_rfl
    simp only [Act.put, List.setIfInBounds_toArray, List.set_cons_zero, List.set_cons_succ]
    refine wpList_build_one_g ?hwn2 _ 23 26 rfl i0 z0 Try.underlying23 HI0.out HZ0.out kc rfl (by rw [HS0.out]; exact HK32.out) (by rw [HS0.out]; decide) (by rw [HS0.out]; decide) ?_
    case hwn2 => kernel_rfl
    simp only [Act.put, List.setIfInBounds_toArray, List.set_cons_zero, List.set_cons_succ]
    refine @BigFrame.wpList_want _ _ _ _ _ _ _ ?hwn3 ?_
    case hwn3 => kernel_rfl
    intro K hK
    go_simp
    refine hK _ _ ?_
    clear hK K
    refine @BigFrame.wpList_want _ _ _ _ _ _ _ ?hwn4 ?_
    case hwn4 => kernel_rfl
    intro K hK
    go_simp
    go_at_call 39; refine HCALL.out.mono ?_; rintro e wn ⟨rfl, bn, fn⟩
    refine hK _ _ ?_
    clear hK K
    have hP : wn.heap[wa]? = some (.cells kc 26 (0, 0)) := fn.row HPA.out
    have k1 : ∀ w', Kept wn.heap.size wn.heap.size wn w' → InBook w' base bb fs2 (n + 3) ∧ BkFr base w w' := fun w' kk => by
      have f1 : BkFr base w (w1.alloc (.cells kc 26)) := BkFr.ofKept HBASE.out (HK0.out.trans (HKA.out.mono HK0.out.size (fun i hi _ => by have := HK0.out.size; omega)))
      have hbn : base ≤ wn.heap.size := Nat.le_trans (Nat.le_trans B1.out HKA.out.size) fn.kept.size
      exact ⟨bn.kept kk, (f1.trans fn).trans (BkFr.ofKept hbn kk)⟩
    clear bn fn HCALL HKA HPA HP
    go_upto_region 5 with fail
    refine wp_region_lit ?_
    refine @BigFrame.wpList_want _ _ _ _ _ _ _ ?hxa0 ?_
    case hxa0 => kernel_rfl
    intro K hK
    go_simp
    refine hK _ _ ?_
    clear hK K
    refine @BigFrame.wpList_want _ _ _ _ _ _ _ ?hxa1 ?_
    case hxa1 => kernel_rfl
    intro K hK
    go_simp
    refine hK _ _ ?_
    clear hK K
    refine @BigFrame.wpList_want _ _ _ _ _ _ _ ?hxa2 ?_
    case hxa2 => kernel_rfl
    intro K hK
    go_simp
    try go_bits
    refine hK _ _ ?_
    clear hK K
    refine wpList_make_row wn rfl _ _ 45 rfl 5 i8 (.int .u8 0) Try.underlying45 HI8.out HZ8.out HS8.out rfl .i64 .i64 (sx.size + 16) (by rw [Int.natCast_add]; rfl) (by rw [Int.natCast_add]; rfl) (by rw [HB8.out]; omega) (by omega) ?_
    simp only [Act.put, List.setIfInBounds_toArray, List.set_cons_zero, List.set_cons_succ]
    refine @BigFrame.wpList_want _ _ _ _ _ _ _ ?hxa4 ?_
    case hxa4 => kernel_rfl
    intro K hK
    go_simp
    refine hK _ _ ?_
    clear hK K
    have hG : (wn.alloc (.cells (madeCells #[.int .u8 0] (sx.size + 16)) 5)).heap[wn.heap.size]? = some (.cells (madeCells #[.int .u8 0] (sx.size + 16)) 5 (0, 0)) := heap_new _ _
    have k2 : Kept wn.heap.size wn.heap.size wn (wn.alloc (.cells (madeCells #[.int .u8 0] (sx.size + 16)) 5)) := (Kept.refl _ _ _).alloc (Nat.le_refl _) _
    have hmc : (madeCells #[Value.int .u8 0] (sx.size + 16)).size = sx.size + 16 := size_madeCells _ _
    have hP2 := (k2.block _ (lt_of_block hP) (Nat.ne_of_lt (lt_of_block hP))).trans hP
    generalize hzc : madeCells #[Value.int .u8 0] (sx.size + 16) = zc at hG k2 hmc hP2 ⊢
    rw [made_bytes] at hzc
    have HZC := Lib.hid hzc
    clear hzc
    generalize wn.alloc (.cells zc 5) = w2 at hG k2 hP2 ⊢
    obtain ⟨g, hg⟩ : ∃ g, g = wn.heap.size := ⟨_, rfl⟩
    rw [← hg] at hG ⊢
    have HP2 := Lib.hid hP2
    have HG := Lib.hid hG
    have HK2 := Lib.hid k2
    have HK1 := Lib.hid k1
    have HWG := Lib.hid hg
    have HMC := Lib.hid hmc
    clear hP2 hG k2 k1 hg hmc hP
    go_upto_region 6 with fail
    refine wp_region_lit ?_
    refine @BigFrame.wpList_want _ _ _ _ _ _ _ ?hxb0 ?_
    case hxb0 => kernel_rfl
    intro K hK
    go_simp
    refine hK _ _ ?_
    clear hK K
    refine wpList_load_row_g ?hxb1 26 _ rfl (wa) rfl 26 kc (0, 0) _ (HP2.out) Try.underlying26 rfl HKI.out ?_
    case hxb1 => kernel_rfl
    simp only [Act.put, List.setIfInBounds_toArray, List.set_cons_zero, List.set_cons_succ]
    refine @BigFrame.wpList_want _ _ _ _ _ _ _ ?hxb2 ?_
    case hxb2 => kernel_rfl
    intro K hK
    go_simp
    refine hK _ _ ?_
    clear hK K
    refine @BigFrame.wpList_want _ _ _ _ _ _ _ ?hxb3 ?_
    case hxb3 => kernel_rfl
    intro K hK
    go_simp
    go_at_call 45; refine (HMK.out _).mono ?_; rintro e w4 ⟨gm, rfl, hgm, hrm, k4⟩
    refine hK _ _ ?_
    clear hK K
    have g4 : w4.heap[g]? = some (.cells zc 5 (0, 0)) := (k4.block _ (lt_of_block HG.out) (Nat.ne_of_lt (lt_of_block HG.out))).trans HG.out
    have hcp := run_copy_row (P := Try.prog) w4 45 45 3 5 g 0 (sx.size + 16) (sx.size + 16) ⟨gm, 0, none⟩ sx.size sx.size zc 5 (bcells cr) Try.underlying45 byteInfo1 g4 (by rw [bcells_length, HCL.out]; exact (Nat.min_eq_left (Nat.le_add_right _ _)).symm) (fun j v hj => by rw [Addr.add_lit, Nat.zero_add]; exact cells_get hrm hj) (by rw [bcells_length, HCL.out, HMC.out]; omega) (bcells_one _)
    obtain ⟨zt, hzt⟩ : ∃ zt, zt = zc.toList.drop (0 + (bcells cr).length) := ⟨_, rfl⟩
    have hzb : zt = bcells (List.replicate 16 0) := by rw [hzt, ← HZC.out, List.toList_toArray, bcells_length, HCL.out, bcells, ← List.map_drop, List.drop_replicate, show sx.size + 16 - (0 + sx.size) = 16 by omega]; rfl
    rw [List.take_zero, List.nil_append, ← hzt, hzb, ← bcells_append] at hcp
    obtain ⟨row, hrow⟩ : ∃ row, row = cr ++ List.replicate 16 0 := ⟨_, rfl⟩
    rw [← hrow] at hcp
    have HROW := Lib.hid hrow
    clear hrow
    have r5 := setRow_heap w4 g zc (bcells row).toArray _ _ g4
    have k14 := HK2.out.trans (k4.mono HK2.out.size (fun i hi _ => by have := HK2.out.size; omega))
    have k5 : Kept wn.heap.size wn.heap.size wn (w4.setRow g (bcells row).toArray) := by
      have e := HWG.out
      exact Kept.ofBelow (below_setRow (k14.below (Nat.le_refl _) (Nat.le_refl _)) (by omega) _) (Nat.le_refl _)
    have p5 : (w4.setRow g (bcells row).toArray).heap[wa]? = some (.cells kc 26 (0, 0)) := by
      have p4 := (k4.block _ (lt_of_block HP2.out) (Nat.ne_of_lt (lt_of_block HP2.out))).trans HP2.out
      have hne : wa ≠ g := fun e => by
        subst e
        rw [g4] at p4
        injection p4 with p4
        injection p4 with _ p5 _
        exact absurd p5 (by decide)
      rw [setRow_other w4 g wa _ hne]
      exact p4
    generalize hw5 : w4.setRow g (bcells row).toArray = w5 at hcp r5 k5 p5
    have Hcp := Lib.hid hcp
    have HR5 := Lib.hid r5
    have HK5 := Lib.hid k5
    have HP5 := Lib.hid p5
    clear hcp r5 k5 p5 hzb g4 k14 k4 hrm hgm hzt hw5
    go_wp2_with fail
    rw [Hcp.out]
    have hld : ∀ w', Kept w5.heap.size w5.heap.size w5 w' → (loadVar 26 ⟨wa, 0, none⟩).run Try.prog w' = .ok (.agg kc) w' ∧ (convert 45 9 (.slice (some ⟨g, 0, none⟩) sx.size (sx.size + 16))).run Try.prog w' = .ok (.string sc) w' := fun w' kk => by
      have hrow := (kk.block _ (lt_of_block HR5.out) (Nat.ne_of_lt (lt_of_block HR5.out))).trans HR5.out
      refine ⟨run_loadVar_row w' wa 26 26 kc (0, 0) _ ((kk.block _ (lt_of_block HP5.out) (Nat.ne_of_lt (lt_of_block HP5.out))).trans HP5.out) Try.underlying26 rfl HKI.out, ?_⟩
      rw [HSC.out]
      exact conv_block hrow cr sx.size (by rw [HROW.out, List.take_append_of_le_length (by rw [HCL.out]; exact Nat.le_refl _), List.take_of_length_le (by rw [HCL.out]; exact Nat.le_refl _)]) HCL.out _
    have HLD := Lib.hid hld
    clear hld
    have hb1 : (sx.size : Int) ≤ (sx.size : Int) + 16 := by omega
    go_upto_region 7 with fail
    refine wp_region_noPanic ?_
    refine wp_region_held_drew (S := fun w' => Kept w5.heap.size w5.heap.size w5 w') (by kernel_rfl) ((Kept.refl _ _ _).drew) (fun hH => ?_)
    refine wpAnyH_take_at (i := 0) 33 (.agg kc) rfl rfl (by kernel_rfl) (by kernel_rfl) (by kernel_rfl) (fun _ _ _ h => h) (yieldsIf_load_known (by rfl) 26 _ rfl (wa) (0) rfl (.agg kc) (fun w' hw' => (HLD.out w' hw').1)) hH ?_
    simp only [List.setIfInBounds_toArray, List.set_cons_zero, List.set_cons_succ]
    refine wpAnyH_take_at (i := 1) 34 (.string about) rfl rfl (by kernel_rfl) (by kernel_rfl) (by kernel_rfl) (fun _ _ _ h => h) (.inl ⟨by rfl, fun w9 _ => by go_simp⟩) hH ?_
    simp only [List.setIfInBounds_toArray, List.set_cons_zero, List.set_cons_succ]
    refine wpAnyH_take_at (i := 2) 35 (.slice (some ⟨g, 0, none⟩) (sx.size + 16) (sx.size + 16)) rfl rfl (by kernel_rfl) (by kernel_rfl) (by kernel_rfl) (fun _ _ _ h => h) (.inl ⟨by rfl, fun w9 _ => by go_simp⟩) hH ?_
    simp only [List.setIfInBounds_toArray, List.set_cons_zero, List.set_cons_succ]
    refine wpAnyH_take_at (i := 3) 36 (.string sx) rfl rfl (by kernel_rfl) (by kernel_rfl) (by kernel_rfl) (fun _ _ _ h => h) (.inl ⟨by rfl, fun w9 _ => by go_simp⟩) hH ?_
    simp only [List.setIfInBounds_toArray, List.set_cons_zero, List.set_cons_succ]
    refine wpAnyH_take_at (i := 4) 37 (.int .i64 (sx.size : Int)) rfl rfl (by kernel_rfl) (by kernel_rfl) (by kernel_rfl) (fun _ _ _ h => h) (.inl ⟨by rfl, fun w9 _ => by go_simp⟩) hH ?_
    simp only [List.setIfInBounds_toArray, List.set_cons_zero, List.set_cons_succ]
    refine wpAnyH_take_at (i := 5) 38 (.slice (some ⟨g, 0, none⟩) sx.size (sx.size + 16)) rfl rfl (by kernel_rfl) (by kernel_rfl) (by kernel_rfl) (fun _ _ _ h => h) (.inl ⟨by rfl, fun w9 _ => by go_simp⟩) hH ?_
    simp only [List.setIfInBounds_toArray, List.set_cons_zero, List.set_cons_succ]
    refine wpAnyH_take_at (i := 6) 39 (.string sc) rfl rfl (by kernel_rfl) (by kernel_rfl) (by kernel_rfl) (fun _ _ _ h => h) (.inl ⟨by rfl, fun w9 h9 => by have h8 := (HLD.out w9 h9).2; go_simp⟩) hH ?_
    simp only [List.setIfInBounds_toArray, List.set_cons_zero, List.set_cons_succ]
    refine wpAnyH_ready (rs := [7, 8]) (by kernel_rfl) (by simp) ?_
    refine AllReadyH.cons rfl (fun K hK => ?_) ?_
    · rw [if_pos (by rfl)]
      go_simp
      go_wp2_with (go_at_call 46; refine (HTG.out _).mono ?_; rintro e w6 ⟨rfl, k6⟩)
      have KA : Kept w5.heap.size w5.heap.size w5 w6 := (Kept.refl _ _ _).drew.trans k6
      refine hK.out _ _ (KA) (fun hH => ?_)
      clear hK K
      refine wpAnyH_ready (rs := [8]) (by kernel_rfl) (by simp) ?_
      refine AllReadyH.cons rfl (fun K hK => ?_) AllReadyH.nil
      rw [if_pos (by rfl)]
      go_simp
      rw [zeros16_eq]
      have KB : Kept w5.heap.size w5.heap.size w5 (w6.alloc (.cells zeros16 93)) := KA.alloc KA.size _
      have HWT : Hid (w5.heap.size ≤ w6.heap.size) := Lib.hid KA.size
      refine hK.out _ _ (KB) (fun hH => ?_)
      clear hK K
      refine wpAnyH_ready (rs := [9]) (by kernel_rfl) (by simp) ?_
      refine AllReadyH.cons rfl (fun K hK => ?_) AllReadyH.nil
      rw [if_pos (by rfl)]
      refine wp_store_row 93 _ _ rfl (w6.heap.size) ct rfl rfl 93 zeros16 (heap_new _ _) HTI.out HTZ.out HTA.out ?_
      have KS : Kept w5.heap.size w5.heap.size w5 ((w6.alloc (.cells zeros16 93)).setRow (w6.heap.size) ct) := Kept.ofBelow (below_setRow (KB.below (Nat.le_refl _) (Nat.le_refl _)) HWT.out ct) (Nat.le_refl _)
      have tS := setRow_heap (w6.alloc (.cells zeros16 93)) (w6.heap.size) zeros16 ct _ _ (heap_new _ _)
      refine hK.out _ _ (KS) (fun hH => ?_)
      clear hK K
      refine wpAnyH_done (by kernel_rfl) ?_ _
      refine NoPanic.normal ?_
      generalize (w6.alloc (.cells zeros16 93)).setRow (w6.heap.size) ct = w8 at KS tS ⊢
      have r8 := (KS.block _ (lt_of_block HR5.out) (Nat.ne_of_lt (lt_of_block HR5.out))).trans HR5.out
      have hWT := HWT.out
      generalize (w6.heap.size) = wt at tS hWT ⊢
      have HKS := Lib.hid KS
      have HTS := Lib.hid tS
      have HR8 := Lib.hid r8
      clear KS tS r8 hWT
      go_upto_region 8 with fail
      refine wp_region_still_tail 5 (by kernel_rfl) (by kernel_rfl) ?_
      simp only [List.take_succ_cons, List.take_zero, List.drop_succ_cons, List.drop_zero]
      generalize hw9 : ({ heap := w8.heap, tape := w8.tape, drawn := w8.drawn + 1, os := w8.os, output := w8.output } : World) = wd
      have rd : wd.heap[g]? = some (.cells (bcells row).toArray 5 (0, 0)) := by rw [← hw9]; exact HR8.out
      have td : wd.heap[wt]? = some (.cells ct 93 (0, 0)) := by rw [← hw9]; exact HTS.out
      have kd : Kept w5.heap.size w5.heap.size w5 wd := by rw [← hw9]; exact HKS.out.drew
      have hrl : row.length = sx.size + 16 := by rw [HROW.out, List.length_append, HCL.out, List.length_replicate]
      have hcp := run_copy_row (P := Try.prog) wd 45 45 3 5 g sx.size 16 16 ⟨wt, 0, none⟩ 16 16 (bcells row).toArray 5 (bcells tg) Try.underlying45 byteInfo1 rd (by rw [bcells_length, HTL.out]; rfl) (fun j v hj => by
        rw [Addr.add_lit, Nat.zero_add]
        have tdb := td
        rw [← HCT.out] at tdb
        exact cells_get tdb hj) (by rw [bcells_length, HTL.out, List.size_toArray, bcells_length, hrl]; exact Nat.le_refl _) (bcells_one _)
      have hfin : ((bcells row).toArray.toList.take sx.size ++ bcells tg ++ (bcells row).toArray.toList.drop (sx.size + (bcells tg).length)).toArray = (bcells (cr ++ tg)).toArray := by
        rw [List.toList_toArray, bcells_length, HTL.out, List.drop_of_length_le (by rw [bcells_length, hrl]; exact Nat.le_refl _), List.append_nil, HROW.out, bcells_append, List.take_append_of_le_length (by rw [bcells_length, HCL.out]; exact Nat.le_refl _), List.take_of_length_le (by rw [bcells_length, HCL.out]; exact Nat.le_refl _), bcells_append]
      rw [hfin] at hcp
      have rf := setRow_heap wd g _ (bcells (cr ++ tg)).toArray _ _ rd
      have k15 : Kept wn.heap.size wn.heap.size wn wd := HK5.out.trans (kd.mono HK5.out.size (fun i hi _ => by have := HK5.out.size; omega))
      have kf : Kept wn.heap.size wn.heap.size wn (wd.setRow g (bcells (cr ++ tg)).toArray) := by
        have e := HWG.out
        exact Kept.ofBelow (below_setRow (k15.below (Nat.le_refl _) (Nat.le_refl _)) (by omega) _) (Nat.le_refl _)
      generalize wd.setRow g (bcells (cr ++ tg)).toArray = wf at hcp rf kf
      have cv : (convert 45 9 (.slice (some ⟨g, 0, none⟩) (sx.size + 16) (sx.size + 16))).run Try.prog wf = .ok (.string res) wf := by
        rw [HRES.out]
        exact conv_block rf (cr ++ tg) (sx.size + 16) (by rw [List.take_of_length_le (by rw [List.length_append, HCL.out, HTL.out]; exact Nat.le_refl _)]) (by rw [List.length_append, HCL.out, HTL.out]) _
      have Hcp2 := Lib.hid hcp
      have HKF := Lib.hid kf
      clear hw9 rd td kd hrl hcp hfin rf k15 kf
      iterate 5 still_step
      refine wpStill_nil ?_
      go_wp2_with fail
      rw [Hcp2.out]
      go_wp2
      go_ret
      exact ⟨rfl, HK1.out _ HKF.out⟩
    · refine AllReadyH.cons rfl (fun K hK => ?_) AllReadyH.nil
      rw [if_pos (by rfl)]
      go_simp
      rw [zeros16_eq]
      have KA : Kept w5.heap.size w5.heap.size w5 (w5.drew.alloc (.cells zeros16 93)) := (Kept.refl _ _ _).drew.alloc (Nat.le_refl _) _
      have tA : (w5.drew.alloc (.cells zeros16 93)).heap[w5.heap.size]? = some (.cells zeros16 93 (0, 0)) := heap_new _ _
      refine hK.out _ _ (KA) (fun hH => ?_)
      clear hK K
      refine wpAnyH_ready (rs := [7]) (by kernel_rfl) (by simp) ?_
      refine AllReadyH.cons rfl (fun K hK => ?_) AllReadyH.nil
      rw [if_pos (by rfl)]
      go_simp
      go_wp2_with (go_at_call 46; refine (HTG.out _).mono ?_; rintro e w6 ⟨rfl, k6⟩)
      have KB : Kept w5.heap.size w5.heap.size w5 w6 := KA.trans (k6.mono KA.size (fun i hi _ => Nat.ne_of_lt (Nat.lt_of_lt_of_le hi KA.size)))
      have tB := (k6.block _ (lt_of_block tA) (Nat.ne_of_lt (lt_of_block tA))).trans tA
      have HWT : Hid (w5.heap.size ≤ w5.heap.size) := Lib.hid (Nat.le_refl _)
      refine hK.out _ _ (KB) (fun hH => ?_)
      clear hK K
      refine wpAnyH_ready (rs := [9]) (by kernel_rfl) (by simp) ?_
      refine AllReadyH.cons rfl (fun K hK => ?_) AllReadyH.nil
      rw [if_pos (by rfl)]
      refine wp_store_row 93 _ _ rfl (w5.heap.size) ct rfl rfl 93 zeros16 (tB) HTI.out HTZ.out HTA.out ?_
      have KS : Kept w5.heap.size w5.heap.size w5 ((w6).setRow (w5.heap.size) ct) := Kept.ofBelow (below_setRow (KB.below (Nat.le_refl _) (Nat.le_refl _)) HWT.out ct) (Nat.le_refl _)
      have tS := setRow_heap (w6) (w5.heap.size) zeros16 ct _ _ (tB)
      refine hK.out _ _ (KS) (fun hH => ?_)
      clear hK K
      refine wpAnyH_done (by kernel_rfl) ?_ _
      refine NoPanic.normal ?_
      generalize (w6).setRow (w5.heap.size) ct = w8 at KS tS ⊢
      have r8 := (KS.block _ (lt_of_block HR5.out) (Nat.ne_of_lt (lt_of_block HR5.out))).trans HR5.out
      have hWT := HWT.out
      generalize (w5.heap.size) = wt at tS hWT ⊢
      have HKS := Lib.hid KS
      have HTS := Lib.hid tS
      have HR8 := Lib.hid r8
      clear KS tS r8 hWT
      go_upto_region 8 with fail
      refine wp_region_still_tail 5 (by kernel_rfl) (by kernel_rfl) ?_
      simp only [List.take_succ_cons, List.take_zero, List.drop_succ_cons, List.drop_zero]
      generalize hw9 : ({ heap := w8.heap, tape := w8.tape, drawn := w8.drawn + 1, os := w8.os, output := w8.output } : World) = wd
      have rd : wd.heap[g]? = some (.cells (bcells row).toArray 5 (0, 0)) := by rw [← hw9]; exact HR8.out
      have td : wd.heap[wt]? = some (.cells ct 93 (0, 0)) := by rw [← hw9]; exact HTS.out
      have kd : Kept w5.heap.size w5.heap.size w5 wd := by rw [← hw9]; exact HKS.out.drew
      have hrl : row.length = sx.size + 16 := by rw [HROW.out, List.length_append, HCL.out, List.length_replicate]
      have hcp := run_copy_row (P := Try.prog) wd 45 45 3 5 g sx.size 16 16 ⟨wt, 0, none⟩ 16 16 (bcells row).toArray 5 (bcells tg) Try.underlying45 byteInfo1 rd (by rw [bcells_length, HTL.out]; rfl) (fun j v hj => by
        rw [Addr.add_lit, Nat.zero_add]
        have tdb := td
        rw [← HCT.out] at tdb
        exact cells_get tdb hj) (by rw [bcells_length, HTL.out, List.size_toArray, bcells_length, hrl]; exact Nat.le_refl _) (bcells_one _)
      have hfin : ((bcells row).toArray.toList.take sx.size ++ bcells tg ++ (bcells row).toArray.toList.drop (sx.size + (bcells tg).length)).toArray = (bcells (cr ++ tg)).toArray := by
        rw [List.toList_toArray, bcells_length, HTL.out, List.drop_of_length_le (by rw [bcells_length, hrl]; exact Nat.le_refl _), List.append_nil, HROW.out, bcells_append, List.take_append_of_le_length (by rw [bcells_length, HCL.out]; exact Nat.le_refl _), List.take_of_length_le (by rw [bcells_length, HCL.out]; exact Nat.le_refl _), bcells_append]
      rw [hfin] at hcp
      have rf := setRow_heap wd g _ (bcells (cr ++ tg)).toArray _ _ rd
      have k15 : Kept wn.heap.size wn.heap.size wn wd := HK5.out.trans (kd.mono HK5.out.size (fun i hi _ => by have := HK5.out.size; omega))
      have kf : Kept wn.heap.size wn.heap.size wn (wd.setRow g (bcells (cr ++ tg)).toArray) := by
        have e := HWG.out
        exact Kept.ofBelow (below_setRow (k15.below (Nat.le_refl _) (Nat.le_refl _)) (by omega) _) (Nat.le_refl _)
      generalize wd.setRow g (bcells (cr ++ tg)).toArray = wf at hcp rf kf
      have cv : (convert 45 9 (.slice (some ⟨g, 0, none⟩) (sx.size + 16) (sx.size + 16))).run Try.prog wf = .ok (.string res) wf := by
        rw [HRES.out]
        exact conv_block rf (cr ++ tg) (sx.size + 16) (by rw [List.take_of_length_le (by rw [List.length_append, HCL.out, HTL.out]; exact Nat.le_refl _)]) (by rw [List.length_append, HCL.out, HTL.out]) _
      have Hcp2 := Lib.hid hcp
      have HKF := Lib.hid kf
      clear hw9 rd td kd hrl hcp hfin rf k15 kf
      iterate 5 still_step
      refine wpStill_nil ?_
      go_wp2_with fail
      rw [Hcp2.out]
      go_wp2
      go_ret
      exact ⟨rfl, HK1.out _ HKF.out⟩

end Go.Proofs.Ytohichignjjleaa

namespace Go.Proofs.Ytohichignjjleaa
open Go.RowKit Go.Lib

/-- The bounds of a book that is to take c steps more. -/
def MildK (c : Nat) (fs : Facts) (n : Nat) : Prop := n + c < 1000000 ∧ fs.length + c < 1000000 ∧ ∀ f ∈ fs, f.1.length < 1000000 ∧ f.2.length < 1000000
theorem MildK.mild {c : Nat} {fs : Facts} {n : Nat} (h : MildK c fs n) : Mild fs n := ⟨by have := h.1; omega, by have := h.2.1; omega, h.2.2⟩
theorem MildK.more {c : Nat} {fs : Facts} {n : Nat} (h : MildK (c + 3) fs n) (f : List (List UInt8) × List (List UInt8)) (h1 : f.1.length < 1000000) (h2 : f.2.length < 1000000) : MildK c (Bk.note fs f) (n + 3) :=
  ⟨by have := h.1; omega, by have := h.2.1; have := bknote_length fs f; omega, fun g hg => by
    rcases bknote_mem fs f g hg with h3 | rfl
    · exact h.2.2 g h3
    · exact ⟨h1, h2⟩⟩
theorem BkFr.base {base : Nat} {w w' : World} (h : BkFr base w w') (hb : base ≤ w.heap.size) : base ≤ w'.heap.size := Nat.le_trans hb h.kept.size
def WrapRows (w : World) (wa wm : Nat) (ac kc cu : Array Value) : Prop := w.heap[wa]? = some (.cells ac 26 (0, 0)) ∧ w.heap[wa + 1]? = some (.cells kc 26 (0, 0)) ∧ w.heap[wm]? = some (.cells cu 26 (0, 0))
theorem WrapRows.fr {base : Nat} {w w' : World} {wa wm : Nat} {ac kc cu : Array Value} (h : WrapRows w wa wm ac kc cu) (f : BkFr base w w') : WrapRows w' wa wm ac kc cu := ⟨f.row h.1, f.row h.2.1, f.row h.2.2⟩
theorem WrapRows.kept {w w' : World} {wa wm : Nat} {ac kc cu : Array Value} (h : WrapRows w wa wm ac kc cu) (k : Kept w.heap.size w.heap.size w w') : WrapRows w' wa wm ac kc cu := h.fr (BkFr.ofKept (Nat.le_refl _) k)

set_option maxRecDepth 100000 in
set_option maxHeartbeats 6400000 in
theorem wrap_book (base bb n : Nat) (fs fs3 : Facts) (a k : List UInt8) (ha : Hid (a.length = 32)) (hk : Hid (k.length = 32)) (about : ByteArray) (s sl : List UInt8) (hsl : sl.length ≤ 100000) (secs : List (List UInt8)) (sad : Option Addr) (scp : Nat) (w : World) (hB : InBook w base bb fs n) (hbase : base ≤ w.heap.size) (hm : MildK 9 fs n) (hsv : ∀ w', BkFr base w w' → Hs w' (.slice sad secs.length scp) secs)
    (hseal : ∀ w', InBook w' base bb (Bk.note (Bk.note fs ([Pm.mark a], [Pm.kem a k])) ([k], [Pm.kem a k])) (n + 6) → base ≤ w'.heap.size → Hs w' (.slice sad secs.length scp) secs → Calls Try.prog 13 #[.pointer (some ⟨bb, 0, none⟩), .agg (bcells (Pm.kem a k)).toArray, .string about, .string (str s), .slice sad secs.length scp] w' fun e w'' => e = .returned (.string (str sl)) ∧ InBook w'' base bb fs3 (n + 9) ∧ BkFr base w' w'') :
    Calls Try.prog 16 #[.pointer (some ⟨bb, 0, none⟩), .agg (bcells a).toArray, .agg (bcells k).toArray, .string about, .string (str s), .slice sad secs.length scp] w fun e w' => e = .returned (.string (if (sl == []) = true then ⟨#[]⟩ else str (k ++ sl))) ∧ InBook w' base bb fs3 (n + 9) ∧ BkFr base w w' := by
  generalize str s = sx at hseal ⊢
  have hkl : str (k ++ sl) = str k ++ str sl := (str_append k sl).symm
  rw [hkl]
  have hiaa := keyInfo ha.out
  have hkka := keyInfo hk.out
  have hzaa : (bcells a).toArray.size = 32 := by rw [List.size_toArray, bcells_length, ha.out]
  have hzkk : (bcells k).toArray.size = 32 := by rw [List.size_toArray, bcells_length, hk.out]
  have hml : (Pm.mark a).length = 32 := Pm.mark_length _
  have hmz : (bcells (Pm.mark a)).toArray.size = 32 := by rw [List.size_toArray, bcells_length, hml]
  have hsh : ∀ w', Calls Try.prog 47 #[.agg (bcells a).toArray, .agg (bcells k).toArray] w' fun e w'' => e = .returned (.agg (bcells (Pm.kem a k)).toArray) ∧ Kept w'.heap.size w'.heap.size w' w'' := fun w' => shared_calls a k ha hk w'
  have hmk : ∀ w', Calls Try.prog 44 #[.agg (bcells a).toArray] w' fun e w'' => e = .returned (.agg (bcells (Pm.mark a)).toArray) ∧ Kept w'.heap.size w'.heap.size w' w'' := fun w' => mark_calls a ha w'
  have hdl : (Pm.kem a k).length = 32 := Pm.kem_length _ _
  have hiu := keyInfo hdl
  have hzu := keySize hdl
  have hcs : (bcells (Pm.kem a k)).toArray.size = 32 := by rw [List.size_toArray, bcells_length, hdl]
  have hall := bcells_all (Pm.kem a k)
  have hmild := hm.more ([Pm.mark a], [Pm.kem a k]) (by show 1 < _; decide) (by show 1 < _; decide)
  have hm1 : ∀ (w' : World) (g h : Nat), InBook w' base bb fs (n) → base ≤ w'.heap.size → w'.heap[g]? = some (.cells (bcells (Pm.mark a)).toArray 26 (0, 0)) → w'.heap[h]? = some (.cells (bcells (Pm.kem a k)).toArray 26 (0, 0)) → Calls Try.prog 39 #[.pointer (some ⟨bb, 0, none⟩), .slice (some ⟨g, 0, none⟩) 1 1, .slice (some ⟨h, 0, none⟩) 1 1] w' fun e w'' => e = .returned (.tuple #[]) ∧ InBook w'' base bb (Bk.note fs ([Pm.mark a], [Pm.kem a k])) (n + 3) ∧ BkFr base w' w'' := fun w' g h hI hb1 hg hh => by
    refine (pnote_book base bb (n) fs (fun _ => False) (Pm.mark a) hml [Pm.kem a k] g 1 _ w' (hI.apart _ (fun _ h => h.elim)) hb1 (fun _ h => h.elim) hm.mild (by show 1 < _; decide) hg (hs_one hdl hh) (fun _ _ e => by cases e)).mono ?_
    rintro e w2 ⟨h1, h2, h3⟩
    exact ⟨h1, h2.book, h3⟩
  have hm2 : ∀ (w' : World) (g h : Nat), InBook w' base bb (Bk.note fs ([Pm.mark a], [Pm.kem a k])) (n + 3) → base ≤ w'.heap.size → w'.heap[g]? = some (.cells (bcells (k)).toArray 26 (0, 0)) → w'.heap[h]? = some (.cells (bcells (Pm.kem a k)).toArray 26 (0, 0)) → Calls Try.prog 39 #[.pointer (some ⟨bb, 0, none⟩), .slice (some ⟨g, 0, none⟩) 1 1, .slice (some ⟨h, 0, none⟩) 1 1] w' fun e w'' => e = .returned (.tuple #[]) ∧ InBook w'' base bb (Bk.note (Bk.note fs ([Pm.mark a], [Pm.kem a k])) ([k], [Pm.kem a k])) (n + 6) ∧ BkFr base w' w'' := fun w' g h hI hb1 hg hh => by
    refine (pnote_book base bb (n + 3) (Bk.note fs ([Pm.mark a], [Pm.kem a k])) (fun _ => False) (k) hk.out [Pm.kem a k] g 1 _ w' (hI.apart _ (fun _ h => h.elim)) hb1 (fun _ h => h.elim) hmild.mild (by show 1 < _; decide) hg (hs_one hdl hh) (fun _ _ e => by cases e)).mono ?_
    rintro e w2 ⟨h1, h2, h3⟩
    exact ⟨h1, h2.book, h3⟩
  clear hmild hm
  generalize (Bk.note (Bk.note fs ([Pm.mark a], [Pm.kem a k])) ([k], [Pm.kem a k])) = fs2 at hm2 hseal
  generalize (Bk.note fs ([Pm.mark a], [Pm.kem a k])) = fs1 at hm1 hm2
  generalize (bcells (Pm.mark a)).toArray = cm at hmk hmz hm1
  generalize (bcells (Pm.kem a k)).toArray = cu at hsh hseal hiu hzu hcs hall hm1 hm2
  have hcvk : ∀ (w' : World) (g : Nat), w'.heap[g]? = some (.cells (bcells k).toArray 26 (0, 0)) → (convert 45 9 (.slice (some ⟨g, 0, none⟩) 32 32)).run Try.prog w' = .ok (.string (str k)) w' := fun w' g hg => conv_hash hk.out hg
  generalize (bcells a).toArray = ac at hiaa hzaa hsh hmk ⊢
  generalize (bcells k).toArray = kc at hkka hzkk hsh hm2 hcvk ⊢
  obtain ⟨sk, hsk⟩ : ∃ sk, sk = str k := ⟨_, rfl⟩
  rw [← hsk] at hcvk
  have hkz : sk.size ≤ 100 := by rw [hsk, str_size, hk.out]; decide
  have HSKK := Lib.hid hsk
  have HAI := Lib.hid hiaa
  have HKI := Lib.hid hkka
  have HA32 := Lib.hid hzaa
  have HK32 := Lib.hid hzkk
  have HMZ := Lib.hid hmz
  have HSH := Lib.hid hsh
  have HMK := Lib.hid hmk
  have HM1 := Lib.hid hm1
  have HM2 := Lib.hid hm2
  have HCV := Lib.hid hcvk
  have HIU := Lib.hid hiu
  have HZU := Lib.hid hzu
  have Hcs := Lib.hid hcs
  have HALL := Lib.hid hall
  have HSEAL := Lib.hid hseal
  have HB := Lib.hid hB
  have HBASE := Lib.hid hbase
  have HSV := Lib.hid hsv
  clear hB hbase hsv hiaa hkka hzaa hzkk hml hmz hsh hmk hdl hiu hzu hcs hall hm1 hm2 hcvk hseal hsk
  rw [← HSKK.out]
  have hz2 : (str sl).size ≤ 100000 := by rw [str_size]; exact hsl
  clear hkl
  obtain ⟨i0, z0, hi0, hz0, hzs0, hs0, hb0⟩ := hash_info
  have HI0 := Lib.hid hi0
  have HZ0 := Lib.hid hz0
  have HS0 := Lib.hid hs0
  clear hi0 hz0 hzs0 hs0 hb0
  go_enter Try.func16, Try.ntmps16
  go_upto_region 1 with fail
  obtain ⟨w1, hw1⟩ : ∃ w1, w1 = (w.alloc (.cells ac 26)).alloc (.cells kc 26) := ⟨_, rfl⟩
  have hQ : w1.heap[w.heap.size]? = some (.cells ac 26 (0, 0)) := by rw [hw1]; exact heap_alloc2_old w _ _
  have hP : w1.heap[w.heap.size + 1]? = some (.cells kc 26 (0, 0)) := by rw [hw1]; exact heap_alloc2_last w _ _
  have k1 : Kept w.heap.size w.heap.size w w1 := by rw [hw1]; exact ((Kept.refl _ _ _).alloc (Nat.le_refl _) _).alloc (by simp) _
  rw [← hw1]
  clear hw1
  obtain ⟨wa, hwa⟩ : ∃ wa, wa = w.heap.size := ⟨_, rfl⟩
  rw [← hwa] at hP hQ ⊢
  have hkey : ∀ w', Kept w1.heap.size w1.heap.size w1 w' → w'.heap[wa]? = some (.cells ac 26 (0, 0)) ∧ w'.heap[wa + 1]? = some (.cells kc 26 (0, 0)) := fun w' kk => ⟨(kk.block _ (lt_of_block hQ) (Nat.ne_of_lt (lt_of_block hQ))).trans hQ, (kk.block _ (lt_of_block hP) (Nat.ne_of_lt (lt_of_block hP))).trans hP⟩
  have HKEY := Lib.hid hkey
  have HK1 := Lib.hid k1
  have HWA := Lib.hid hwa
  clear hkey k1 hwa hP hQ
  refine wp_region_lit ?_
  refine wpList_load_row_g ?hwa0 26 _ rfl (wa) rfl 26 ac (0, 0) _ ((HKEY.out _ (Kept.refl _ _ _)).1) Try.underlying26 rfl HAI.out ?_
  case hwa0 => kernel_rfl
  simp only [Act.put, List.setIfInBounds_toArray, List.set_cons_zero, List.set_cons_succ]
  refine wpList_load_row_g ?hwa1 26 _ rfl (wa + 1) rfl 26 kc (0, 0) _ ((HKEY.out _ (Kept.refl _ _ _)).2) Try.underlying26 rfl HKI.out ?_
  case hwa1 => kernel_rfl
  simp only [Act.put, List.setIfInBounds_toArray, List.set_cons_zero, List.set_cons_succ]
  refine @BigFrame.wpList_want _ _ _ _ _ _ _ ?hwa2 ?_
  case hwa2 => kernel_rfl
  intro K hK
  go_simp
  go_at_call 47; refine (HSH.out _).mono ?_; rintro e w3 ⟨rfl, k3⟩
  refine hK _ _ ?_
  clear hK K
  refine wpList_alloc_k rfl 26 rfl (alloc_zero _) ?_
  simp only [Act.put, List.setIfInBounds_toArray, List.set_cons_zero, List.set_cons_succ]
  refine wpList_store_row rfl 26 _ _ rfl (w3.heap.size) cu rfl rfl 26 zeros32 (heap_new _ _) HIU.out HZU.out HALL.out ?_
  simp only [Act.put]
  have K4 : Kept w1.heap.size w1.heap.size w1 (w3.alloc (.cells zeros32 26)) := k3.alloc k3.size _
  have K5 : Kept w1.heap.size w1.heap.size w1 ((w3.alloc (.cells zeros32 26)).setRow w3.heap.size cu) := Kept.ofBelow (below_setRow (K4.below (Nat.le_refl _) (Nat.le_refl _)) k3.size cu) (Nat.le_refl _)
  have r5 := setRow_heap (w3.alloc (.cells zeros32 26)) w3.heap.size zeros32 cu _ _ (heap_new _ _)
  generalize (w3.alloc (.cells zeros32 26)).setRow w3.heap.size cu = w5 at K5 r5 ⊢
  have hwm : w1.heap.size ≤ w3.heap.size := k3.size
  generalize w3.heap.size = wm at r5 hwm ⊢
  clear K4
  have hld : ∀ w', Kept w5.heap.size w5.heap.size w5 w' → w'.heap[wa]? = some (.cells ac 26 (0, 0)) ∧ w'.heap[wa + 1]? = some (.cells kc 26 (0, 0)) ∧ w'.heap[wm]? = some (.cells cu 26 (0, 0)) := fun w' kk => by
    have rk := HKEY.out w5 K5
    exact ⟨(kk.block _ (lt_of_block rk.1) (Nat.ne_of_lt (lt_of_block rk.1))).trans rk.1, (kk.block _ (lt_of_block rk.2) (Nat.ne_of_lt (lt_of_block rk.2))).trans rk.2, (kk.block _ (lt_of_block r5) (Nat.ne_of_lt (lt_of_block r5))).trans r5⟩
  have hss : ∀ w', Kept w5.heap.size w5.heap.size w5 w' → WrapRows w' wa wm ac kc cu := hld
  have hw5 : ∀ w', Kept w5.heap.size w5.heap.size w5 w' → Kept w.heap.size w.heap.size w w' := fun w' kk => HK1.out.trans ((K5.trans (kk.mono K5.size (fun i hi _ => by have := K5.size; omega))).mono HK1.out.size (fun i hi _ => by have := HK1.out.size; omega))
  have hcc : ∀ wc, Kept w5.heap.size w5.heap.size w5 wc → InBook wc base bb fs n ∧ base ≤ wc.heap.size := fun wc kk => ⟨HB.out.kept (hw5 wc kk), Nat.le_trans HBASE.out (hw5 wc kk).size⟩
  have hfr : ∀ wc w', Kept w5.heap.size w5.heap.size w5 wc → BkFr base wc w' → BkFr base w w' := fun wc w' kk ff => (BkFr.ofKept HBASE.out (hw5 wc kk)).trans ff
  have hrows : ∀ w', WrapRows w' wa wm ac kc cu → w'.heap[wa]? = some (.cells ac 26 (0, 0)) ∧ w'.heap[wa + 1]? = some (.cells kc 26 (0, 0)) ∧ w'.heap[wm]? = some (.cells cu 26 (0, 0)) := fun _ h => h
  have HLD := Lib.hid hrows
  have HSS := Lib.hid hss
  have HCC := Lib.hid hcc
  have HFR := Lib.hid hfr
  clear hld hss hw5 hcc hfr hrows r5 K5 k3 hwm
  go_upto_region 2 with fail
  refine wp_region_noPanic ?_
  refine wp_region_held_drew (S := fun w' => WrapRows w' wa wm ac kc cu) (by kernel_rfl) (HSS.out _ (Kept.refl _ _ _).drew) (fun hH => ?_)
  refine wpAnyH_take_at (i := 0) 18 (.pointer (some ⟨bb, 0, none⟩)) rfl rfl (by kernel_rfl) (by kernel_rfl) (by kernel_rfl) (fun _ _ _ h => h) (.inl ⟨by rfl, fun w9 _ => by go_simp⟩) hH ?_
  simp only [List.setIfInBounds_toArray, List.set_cons_zero, List.set_cons_succ]
  refine wpAnyH_take_at (i := 1) 19 (.agg ac) rfl rfl (by kernel_rfl) (by kernel_rfl) (by kernel_rfl) (fun _ _ _ h => h) (yieldsIf_load_known (by rfl) 26 _ rfl (wa) (0) rfl (.agg ac) (fun w' hw' => run_loadVar_row w' (wa) 26 26 ac (0, 0) _ ((HLD.out w' hw').1) Try.underlying26 rfl HAI.out)) hH ?_
  simp only [List.setIfInBounds_toArray, List.set_cons_zero, List.set_cons_succ]
  refine wpAnyH_take_at (i := 4) 22 (.agg cu) rfl rfl (by kernel_rfl) (by kernel_rfl) (by kernel_rfl) (fun _ _ _ h => h) (yieldsIf_load_known (by rfl) 26 _ rfl (wm) (0) rfl (.agg cu) (fun w' hw' => run_loadVar_row w' (wm) 26 26 cu (0, 0) _ ((HLD.out w' hw').2.2) Try.underlying26 rfl HIU.out)) hH ?_
  simp only [List.setIfInBounds_toArray, List.set_cons_zero, List.set_cons_succ]
  refine wpAnyH_ready (rs := [2, 5]) (by kernel_rfl) (by simp) ?_
  refine AllReadyH.cons rfl (fun K hK => ?_) ?_
  · rw [if_pos (by rfl)]
    go_simp
    go_wp2_with (go_at_call 44; refine (HMK.out _).mono ?_; rintro e w6 ⟨rfl, k6⟩)
    have KB : Kept w5.heap.size w5.heap.size w5 w6 := (Kept.refl _ _ _).drew.trans k6
    refine hK.out _ _ (HSS.out _ KB) (fun hH => ?_)
    clear hK K
    refine wpAnyH_ready (rs := [3, 5]) (by kernel_rfl) (by simp) ?_
    refine AllReadyH.cons rfl (fun K hK => ?_) ?_
    · rw [if_pos (by rfl)]
      refine wp_build_one _ 23 26 rfl i0 z0 Try.underlying23 HI0.out HZ0.out cm rfl (by rw [HS0.out]; exact HMZ.out) (by rw [HS0.out]; decide) (by rw [HS0.out]; decide) ?_
      simp only [Act.put, List.setIfInBounds_toArray]
      have KA : Kept w5.heap.size w5.heap.size w5 (w6.alloc (.cells cm 26)) := KB.alloc KB.size _
      have rA : (w6.alloc (.cells cm 26)).heap[w6.heap.size]? = some (.cells cm 26 (0, 0)) := heap_new _ _
      have sA : (w6.alloc (.cells cm 26)).heap.size = w6.heap.size + 1 := by simp
      refine hK.out _ _ (HSS.out _ KA) (fun hH => ?_)
      clear hK K
      refine wpAnyH_ready (rs := [5]) (by kernel_rfl) (by simp) ?_
      refine AllReadyH.cons rfl (fun K hK => ?_) AllReadyH.nil
      rw [if_pos (by rfl)]
      refine wp_build_one _ 23 26 rfl i0 z0 Try.underlying23 HI0.out HZ0.out cu rfl (by rw [HS0.out]; exact Hcs.out) (by rw [HS0.out]; decide) (by rw [HS0.out]; decide) ?_
      simp only [Act.put]
      have KC : Kept w5.heap.size w5.heap.size w5 ((w6.alloc (.cells cm 26)).alloc (.cells cu 26)) := KA.alloc KA.size _
      have rC : ((w6.alloc (.cells cm 26)).alloc (.cells cu 26)).heap[w6.heap.size]? = some (.cells cm 26 (0, 0)) := by rw [Below.heap_alloc _ _ _ (lt_of_block rA)]; exact rA
      have rD : ((w6.alloc (.cells cm 26)).alloc (.cells cu 26)).heap[w6.heap.size + 1]? = some (.cells cu 26 (0, 0)) := by rw [← sA]; exact heap_new _ _
      refine hK.out _ _ (HSS.out _ KC) (fun hH => ?_)
      clear hK K
      refine wpAnyH_ready (rs := [6]) (by kernel_rfl) (by simp) ?_
      refine AllReadyH.cons rfl (fun K hK => ?_) AllReadyH.nil
      rw [if_pos (by rfl)]
      go_simp
      go_wp2_with (go_at_call 39; refine (HM1.out _ (w6.heap.size) (w6.heap.size + 1) (HCC.out _ KC).1 (HCC.out _ KC).2 (rC) (rD)).mono ?_; rintro e w8 ⟨rfl, b8, f8⟩)
      have J8 : WrapRows w8 wa wm ac kc cu := WrapRows.fr (HSS.out _ KC) f8
      refine hK.out _ _ (J8) (fun hH => ?_)
      clear hK K
      refine wpAnyH_done (by kernel_rfl) ?_ _
      refine NoPanic.normal ?_
      have KA8 : Kept w8.heap.size w8.heap.size w8 (w8.alloc (.cells kc 26)) := (Kept.refl _ _ _).alloc (Nat.le_refl _) _
      have sA8 : (w8.alloc (.cells kc 26)).heap.size = w8.heap.size + 1 := by simp
      have JA : WrapRows (w8.alloc (.cells kc 26)) wa wm ac kc cu := J8.kept KA8
      have KB8 : Kept w8.heap.size w8.heap.size w8 ((w8.alloc (.cells kc 26)).alloc (.cells cu 26)) := KA8.alloc KA8.size _
      have JB : WrapRows ((w8.alloc (.cells kc 26)).alloc (.cells cu 26)) wa wm ac kc cu := J8.kept KB8
      have F8 := HFR.out _ _ KC f8
      have c8 : base ≤ w8.heap.size := F8.base HBASE.out
      have hN2 := HM2.out ((w8.alloc (.cells kc 26)).alloc (.cells cu 26)) w8.heap.size (w8.heap.size + 1) (b8.kept KB8) (Nat.le_trans c8 KB8.size) (by rw [Below.heap_alloc _ _ _ (by omega)]; exact heap_new _ _) (by rw [← sA8]; exact heap_new _ _)
      have HN2 := Lib.hid hN2
      have HJA := Lib.hid JA
      have HJB := Lib.hid JB
      have HJ8 := Lib.hid J8
      have HF8 := Lib.hid (F8.trans (BkFr.ofKept c8 KB8))
      clear KA8 KB8 sA8 hN2 JA JB J8 b8 f8 F8 c8
      go_upto_region 3 with fail
      refine wp_region_lit ?_
      refine @BigFrame.wpList_want _ _ _ _ _ _ _ ?hwl1a ?_
      case hwl1a => kernel_rfl
      intro K hK
      go_simp
      refine hK _ _ ?_
      clear hK K
      refine wpList_load_row_g ?hwl1b 26 _ rfl (wa + 1) rfl 26 kc (0, 0) _ ((HLD.out w8 HJ8.out).2.1) Try.underlying26 rfl HKI.out ?_
      case hwl1b => kernel_rfl
      simp only [Act.put, List.setIfInBounds_toArray, List.set_cons_zero, List.set_cons_succ]
      refine wpList_build_one_g ?hwl1c _ 23 26 rfl i0 z0 Try.underlying23 HI0.out HZ0.out kc rfl (by rw [HS0.out]; exact HK32.out) (by rw [HS0.out]; decide) (by rw [HS0.out]; decide) ?_
      case hwl1c => kernel_rfl
      simp only [Act.put, List.setIfInBounds_toArray, List.set_cons_zero, List.set_cons_succ]
      refine wpList_load_row_g ?hwl1d 26 _ rfl (wm) rfl 26 cu (0, 0) _ ((HLD.out _ HJA.out).2.2) Try.underlying26 rfl HIU.out ?_
      case hwl1d => kernel_rfl
      simp only [Act.put, List.setIfInBounds_toArray, List.set_cons_zero, List.set_cons_succ]
      refine wpList_build_one_g ?hwl1e _ 23 26 rfl i0 z0 Try.underlying23 HI0.out HZ0.out cu rfl (by rw [HS0.out]; exact Hcs.out) (by rw [HS0.out]; decide) (by rw [HS0.out]; decide) ?_
      case hwl1e => kernel_rfl
      simp only [Act.put, List.setIfInBounds_toArray, List.set_cons_zero, List.set_cons_succ]
      refine @BigFrame.wpList_want _ _ _ _ _ _ _ ?hwl1f ?_
      case hwl1f => kernel_rfl
      intro K hK
      go_simp
      go_at_call 39; refine HN2.out.mono ?_; rintro e w9 ⟨rfl, b9, f9⟩
      refine hK _ _ ?_
      clear hK K
      have J9 : WrapRows w9 wa wm ac kc cu := WrapRows.fr HJB.out f9
      have F9 : BkFr base w w9 := HF8.out.trans f9
      have hse9 := HSEAL.out w9 b9 (F9.base HBASE.out) (HSV.out w9 F9)
      have HSE9 := Lib.hid hse9
      have HF9 := Lib.hid F9
      have HJ9 := Lib.hid J9
      clear J9 b9 f9 F9 hse9
      go_upto_region 4 with fail
      refine wp_region_lit ?_
      refine @BigFrame.wpList_want _ _ _ _ _ _ _ ?hwl1g ?_
      case hwl1g => kernel_rfl
      intro K hK
      go_simp
      refine hK _ _ ?_
      clear hK K
      refine wpList_load_row_g ?hwl1h 26 _ rfl (wm) rfl 26 cu (0, 0) _ ((HLD.out w9 HJ9.out).2.2) Try.underlying26 rfl HIU.out ?_
      case hwl1h => kernel_rfl
      simp only [Act.put, List.setIfInBounds_toArray, List.set_cons_zero, List.set_cons_succ]
      refine @BigFrame.wpList_want _ _ _ _ _ _ _ ?hwl1i ?_
      case hwl1i => kernel_rfl
      intro K hK
      go_simp
      refine hK _ _ ?_
      clear hK K
      refine @BigFrame.wpList_want _ _ _ _ _ _ _ ?hwl1j ?_
      case hwl1j => kernel_rfl
      intro K hK
      go_simp
      refine hK _ _ ?_
      clear hK K
      refine @BigFrame.wpList_want _ _ _ _ _ _ _ ?hwl1k ?_
      case hwl1k => kernel_rfl
      intro K hK
      go_simp
      refine hK _ _ ?_
      clear hK K
      refine @BigFrame.wpList_want _ _ _ _ _ _ _ ?hwl1m ?_
      case hwl1m => kernel_rfl
      intro K hK
      go_simp
      go_at_call 13; refine HSE9.out.mono ?_; rintro e w10 ⟨rfl, b10, f10⟩
      refine hK _ _ ?_
      clear hK K
      refine @BigFrame.wpList_want _ _ _ _ _ _ _ ?hwl1n ?_
      case hwl1n => kernel_rfl
      intro K hK
      go_simp
      refine hK _ _ ?_
      clear hK K
      have J10 : WrapRows w10 wa wm ac kc cu := WrapRows.fr HJ9.out f10
      have HE10 := Lib.hid (show InBook w10 base bb fs3 (n + 9) ∧ BkFr base w w10 from ⟨b10, HF9.out.trans f10⟩)
      have cv := HCV.out w10 (wa + 1) (HLD.out w10 J10).2.1
      have HJ10 := Lib.hid J10
      clear J10 b10 f10
      go_upto_region 5 with fail
      refine wp_region_lit ?_
      refine @BigFrame.wpList_want _ _ _ _ _ _ _ ?hwl1o ?_
      case hwl1o => kernel_rfl
      intro K hK
      go_simp
      refine hK _ _ ?_
      clear hK K
      refine @BigFrame.wpList_want _ _ _ _ _ _ _ ?hwl1p ?_
      case hwl1p => kernel_rfl
      intro K hK
      go_simp
      refine hK _ _ ?_
      clear hK K
      generalize hq : (sl == []) = qb
      have HEND := HE10
      cases qb with
      | true =>
        go_wp2
        all_goals go_ret
        all_goals first
          | exact ⟨rfl, HEND.out⟩
          | (exfalso; simp_all; done)
      | false =>
        go_wp2
        all_goals go_ret
        all_goals first
          | exact ⟨rfl, HEND.out⟩
          | (exfalso; simp_all; done)
    · refine AllReadyH.cons rfl (fun K hK => ?_) AllReadyH.nil
      rw [if_pos (by rfl)]
      refine wp_build_one _ 23 26 rfl i0 z0 Try.underlying23 HI0.out HZ0.out cu rfl (by rw [HS0.out]; exact Hcs.out) (by rw [HS0.out]; decide) (by rw [HS0.out]; decide) ?_
      simp only [Act.put, List.setIfInBounds_toArray]
      have KA : Kept w5.heap.size w5.heap.size w5 (w6.alloc (.cells cu 26)) := KB.alloc KB.size _
      have rA : (w6.alloc (.cells cu 26)).heap[w6.heap.size]? = some (.cells cu 26 (0, 0)) := heap_new _ _
      have sA : (w6.alloc (.cells cu 26)).heap.size = w6.heap.size + 1 := by simp
      refine hK.out _ _ (HSS.out _ KA) (fun hH => ?_)
      clear hK K
      refine wpAnyH_ready (rs := [3]) (by kernel_rfl) (by simp) ?_
      refine AllReadyH.cons rfl (fun K hK => ?_) AllReadyH.nil
      rw [if_pos (by rfl)]
      refine wp_build_one _ 23 26 rfl i0 z0 Try.underlying23 HI0.out HZ0.out cm rfl (by rw [HS0.out]; exact HMZ.out) (by rw [HS0.out]; decide) (by rw [HS0.out]; decide) ?_
      simp only [Act.put]
      have KC : Kept w5.heap.size w5.heap.size w5 ((w6.alloc (.cells cu 26)).alloc (.cells cm 26)) := KA.alloc KA.size _
      have rC : ((w6.alloc (.cells cu 26)).alloc (.cells cm 26)).heap[w6.heap.size]? = some (.cells cu 26 (0, 0)) := by rw [Below.heap_alloc _ _ _ (lt_of_block rA)]; exact rA
      have rD : ((w6.alloc (.cells cu 26)).alloc (.cells cm 26)).heap[w6.heap.size + 1]? = some (.cells cm 26 (0, 0)) := by rw [← sA]; exact heap_new _ _
      refine hK.out _ _ (HSS.out _ KC) (fun hH => ?_)
      clear hK K
      refine wpAnyH_ready (rs := [6]) (by kernel_rfl) (by simp) ?_
      refine AllReadyH.cons rfl (fun K hK => ?_) AllReadyH.nil
      rw [if_pos (by rfl)]
      go_simp
      go_wp2_with (go_at_call 39; refine (HM1.out _ (w6.heap.size + 1) (w6.heap.size) (HCC.out _ KC).1 (HCC.out _ KC).2 (rD) (rC)).mono ?_; rintro e w8 ⟨rfl, b8, f8⟩)
      have J8 : WrapRows w8 wa wm ac kc cu := WrapRows.fr (HSS.out _ KC) f8
      refine hK.out _ _ (J8) (fun hH => ?_)
      clear hK K
      refine wpAnyH_done (by kernel_rfl) ?_ _
      refine NoPanic.normal ?_
      have KA8 : Kept w8.heap.size w8.heap.size w8 (w8.alloc (.cells kc 26)) := (Kept.refl _ _ _).alloc (Nat.le_refl _) _
      have sA8 : (w8.alloc (.cells kc 26)).heap.size = w8.heap.size + 1 := by simp
      have JA : WrapRows (w8.alloc (.cells kc 26)) wa wm ac kc cu := J8.kept KA8
      have KB8 : Kept w8.heap.size w8.heap.size w8 ((w8.alloc (.cells kc 26)).alloc (.cells cu 26)) := KA8.alloc KA8.size _
      have JB : WrapRows ((w8.alloc (.cells kc 26)).alloc (.cells cu 26)) wa wm ac kc cu := J8.kept KB8
      have F8 := HFR.out _ _ KC f8
      have c8 : base ≤ w8.heap.size := F8.base HBASE.out
      have hN2 := HM2.out ((w8.alloc (.cells kc 26)).alloc (.cells cu 26)) w8.heap.size (w8.heap.size + 1) (b8.kept KB8) (Nat.le_trans c8 KB8.size) (by rw [Below.heap_alloc _ _ _ (by omega)]; exact heap_new _ _) (by rw [← sA8]; exact heap_new _ _)
      have HN2 := Lib.hid hN2
      have HJA := Lib.hid JA
      have HJB := Lib.hid JB
      have HJ8 := Lib.hid J8
      have HF8 := Lib.hid (F8.trans (BkFr.ofKept c8 KB8))
      clear KA8 KB8 sA8 hN2 JA JB J8 b8 f8 F8 c8
      go_upto_region 3 with fail
      refine wp_region_lit ?_
      refine @BigFrame.wpList_want _ _ _ _ _ _ _ ?hwl2a ?_
      case hwl2a => kernel_rfl
      intro K hK
      go_simp
      refine hK _ _ ?_
      clear hK K
      refine wpList_load_row_g ?hwl2b 26 _ rfl (wa + 1) rfl 26 kc (0, 0) _ ((HLD.out w8 HJ8.out).2.1) Try.underlying26 rfl HKI.out ?_
      case hwl2b => kernel_rfl
      simp only [Act.put, List.setIfInBounds_toArray, List.set_cons_zero, List.set_cons_succ]
      refine wpList_build_one_g ?hwl2c _ 23 26 rfl i0 z0 Try.underlying23 HI0.out HZ0.out kc rfl (by rw [HS0.out]; exact HK32.out) (by rw [HS0.out]; decide) (by rw [HS0.out]; decide) ?_
      case hwl2c => kernel_rfl
      simp only [Act.put, List.setIfInBounds_toArray, List.set_cons_zero, List.set_cons_succ]
      refine wpList_load_row_g ?hwl2d 26 _ rfl (wm) rfl 26 cu (0, 0) _ ((HLD.out _ HJA.out).2.2) Try.underlying26 rfl HIU.out ?_
      case hwl2d => kernel_rfl
      simp only [Act.put, List.setIfInBounds_toArray, List.set_cons_zero, List.set_cons_succ]
      refine wpList_build_one_g ?hwl2e _ 23 26 rfl i0 z0 Try.underlying23 HI0.out HZ0.out cu rfl (by rw [HS0.out]; exact Hcs.out) (by rw [HS0.out]; decide) (by rw [HS0.out]; decide) ?_
      case hwl2e => kernel_rfl
      simp only [Act.put, List.setIfInBounds_toArray, List.set_cons_zero, List.set_cons_succ]
      refine @BigFrame.wpList_want _ _ _ _ _ _ _ ?hwl2f ?_
      case hwl2f => kernel_rfl
      intro K hK
      go_simp
      go_at_call 39; refine HN2.out.mono ?_; rintro e w9 ⟨rfl, b9, f9⟩
      refine hK _ _ ?_
      clear hK K
      have J9 : WrapRows w9 wa wm ac kc cu := WrapRows.fr HJB.out f9
      have F9 : BkFr base w w9 := HF8.out.trans f9
      have hse9 := HSEAL.out w9 b9 (F9.base HBASE.out) (HSV.out w9 F9)
      have HSE9 := Lib.hid hse9
      have HF9 := Lib.hid F9
      have HJ9 := Lib.hid J9
      clear J9 b9 f9 F9 hse9
      go_upto_region 4 with fail
      refine wp_region_lit ?_
      refine @BigFrame.wpList_want _ _ _ _ _ _ _ ?hwl2g ?_
      case hwl2g => kernel_rfl
      intro K hK
      go_simp
      refine hK _ _ ?_
      clear hK K
      refine wpList_load_row_g ?hwl2h 26 _ rfl (wm) rfl 26 cu (0, 0) _ ((HLD.out w9 HJ9.out).2.2) Try.underlying26 rfl HIU.out ?_
      case hwl2h => kernel_rfl
      simp only [Act.put, List.setIfInBounds_toArray, List.set_cons_zero, List.set_cons_succ]
      refine @BigFrame.wpList_want _ _ _ _ _ _ _ ?hwl2i ?_
      case hwl2i => kernel_rfl
      intro K hK
      go_simp
      refine hK _ _ ?_
      clear hK K
      refine @BigFrame.wpList_want _ _ _ _ _ _ _ ?hwl2j ?_
      case hwl2j => kernel_rfl
      intro K hK
      go_simp
      refine hK _ _ ?_
      clear hK K
      refine @BigFrame.wpList_want _ _ _ _ _ _ _ ?hwl2k ?_
      case hwl2k => kernel_rfl
      intro K hK
      go_simp
      refine hK _ _ ?_
      clear hK K
      refine @BigFrame.wpList_want _ _ _ _ _ _ _ ?hwl2m ?_
      case hwl2m => kernel_rfl
      intro K hK
      go_simp
      go_at_call 13; refine HSE9.out.mono ?_; rintro e w10 ⟨rfl, b10, f10⟩
      refine hK _ _ ?_
      clear hK K
      refine @BigFrame.wpList_want _ _ _ _ _ _ _ ?hwl2n ?_
      case hwl2n => kernel_rfl
      intro K hK
      go_simp
      refine hK _ _ ?_
      clear hK K
      have J10 : WrapRows w10 wa wm ac kc cu := WrapRows.fr HJ9.out f10
      have HE10 := Lib.hid (show InBook w10 base bb fs3 (n + 9) ∧ BkFr base w w10 from ⟨b10, HF9.out.trans f10⟩)
      have cv := HCV.out w10 (wa + 1) (HLD.out w10 J10).2.1
      have HJ10 := Lib.hid J10
      clear J10 b10 f10
      go_upto_region 5 with fail
      refine wp_region_lit ?_
      refine @BigFrame.wpList_want _ _ _ _ _ _ _ ?hwl2o ?_
      case hwl2o => kernel_rfl
      intro K hK
      go_simp
      refine hK _ _ ?_
      clear hK K
      refine @BigFrame.wpList_want _ _ _ _ _ _ _ ?hwl2p ?_
      case hwl2p => kernel_rfl
      intro K hK
      go_simp
      refine hK _ _ ?_
      clear hK K
      generalize hq : (sl == []) = qb
      have HEND := HE10
      cases qb with
      | true =>
        go_wp2
        all_goals go_ret
        all_goals first
          | exact ⟨rfl, HEND.out⟩
          | (exfalso; simp_all; done)
      | false =>
        go_wp2
        all_goals go_ret
        all_goals first
          | exact ⟨rfl, HEND.out⟩
          | (exfalso; simp_all; done)
  · refine AllReadyH.cons rfl (fun K hK => ?_) AllReadyH.nil
    rw [if_pos (by rfl)]
    refine wp_build_one _ 23 26 rfl i0 z0 Try.underlying23 HI0.out HZ0.out cu rfl (by rw [HS0.out]; exact Hcs.out) (by rw [HS0.out]; decide) (by rw [HS0.out]; decide) ?_
    simp only [Act.put, List.setIfInBounds_toArray]
    have KA : Kept w5.heap.size w5.heap.size w5 (w5.drew.alloc (.cells cu 26)) := (Kept.refl _ _ _).drew.alloc (Nat.le_refl _) _
    have rA : (w5.drew.alloc (.cells cu 26)).heap[w5.drew.heap.size]? = some (.cells cu 26 (0, 0)) := heap_new _ _
    refine hK.out _ _ (HSS.out _ KA) (fun hH => ?_)
    clear hK K
    refine wpAnyH_ready (rs := [2]) (by kernel_rfl) (by simp) ?_
    refine AllReadyH.cons rfl (fun K hK => ?_) AllReadyH.nil
    rw [if_pos (by rfl)]
    go_simp
    go_wp2_with (go_at_call 44; refine (HMK.out _).mono ?_; rintro e w6 ⟨rfl, k6⟩)
    have KB : Kept w5.heap.size w5.heap.size w5 w6 := KA.trans (k6.mono KA.size (fun i hi _ => Nat.ne_of_lt (Nat.lt_of_lt_of_le hi KA.size)))
    have rB := (k6.block _ (lt_of_block rA) (Nat.ne_of_lt (lt_of_block rA))).trans rA
    refine hK.out _ _ (HSS.out _ KB) (fun hH => ?_)
    clear hK K
    refine wpAnyH_ready (rs := [3]) (by kernel_rfl) (by simp) ?_
    refine AllReadyH.cons rfl (fun K hK => ?_) AllReadyH.nil
    rw [if_pos (by rfl)]
    refine wp_build_one _ 23 26 rfl i0 z0 Try.underlying23 HI0.out HZ0.out cm rfl (by rw [HS0.out]; exact HMZ.out) (by rw [HS0.out]; decide) (by rw [HS0.out]; decide) ?_
    simp only [Act.put, List.setIfInBounds_toArray]
    have KC : Kept w5.heap.size w5.heap.size w5 (w6.alloc (.cells cm 26)) := KB.alloc KB.size _
    have rC : (w6.alloc (.cells cm 26)).heap[w5.drew.heap.size]? = some (.cells cu 26 (0, 0)) := by rw [Below.heap_alloc _ _ _ (lt_of_block rB)]; exact rB
    refine hK.out _ _ (HSS.out _ KC) (fun hH => ?_)
    clear hK K
    refine wpAnyH_ready (rs := [6]) (by kernel_rfl) (by simp) ?_
    refine AllReadyH.cons rfl (fun K hK => ?_) AllReadyH.nil
    rw [if_pos (by rfl)]
    go_simp
    go_wp2_with (go_at_call 39; refine (HM1.out _ (w6.heap.size) (w5.drew.heap.size) (HCC.out _ KC).1 (HCC.out _ KC).2 (heap_new _ _) (rC)).mono ?_; rintro e w8 ⟨rfl, b8, f8⟩)
    have J8 : WrapRows w8 wa wm ac kc cu := WrapRows.fr (HSS.out _ KC) f8
    refine hK.out _ _ (J8) (fun hH => ?_)
    clear hK K
    refine wpAnyH_done (by kernel_rfl) ?_ _
    refine NoPanic.normal ?_
    have KA8 : Kept w8.heap.size w8.heap.size w8 (w8.alloc (.cells kc 26)) := (Kept.refl _ _ _).alloc (Nat.le_refl _) _
    have sA8 : (w8.alloc (.cells kc 26)).heap.size = w8.heap.size + 1 := by simp
    have JA : WrapRows (w8.alloc (.cells kc 26)) wa wm ac kc cu := J8.kept KA8
    have KB8 : Kept w8.heap.size w8.heap.size w8 ((w8.alloc (.cells kc 26)).alloc (.cells cu 26)) := KA8.alloc KA8.size _
    have JB : WrapRows ((w8.alloc (.cells kc 26)).alloc (.cells cu 26)) wa wm ac kc cu := J8.kept KB8
    have F8 := HFR.out _ _ KC f8
    have c8 : base ≤ w8.heap.size := F8.base HBASE.out
    have hN2 := HM2.out ((w8.alloc (.cells kc 26)).alloc (.cells cu 26)) w8.heap.size (w8.heap.size + 1) (b8.kept KB8) (Nat.le_trans c8 KB8.size) (by rw [Below.heap_alloc _ _ _ (by omega)]; exact heap_new _ _) (by rw [← sA8]; exact heap_new _ _)
    have HN2 := Lib.hid hN2
    have HJA := Lib.hid JA
    have HJB := Lib.hid JB
    have HJ8 := Lib.hid J8
    have HF8 := Lib.hid (F8.trans (BkFr.ofKept c8 KB8))
    clear KA8 KB8 sA8 hN2 JA JB J8 b8 f8 F8 c8
    go_upto_region 3 with fail
    refine wp_region_lit ?_
    refine @BigFrame.wpList_want _ _ _ _ _ _ _ ?hwl3a ?_
    case hwl3a => kernel_rfl
    intro K hK
    go_simp
    refine hK _ _ ?_
    clear hK K
    refine wpList_load_row_g ?hwl3b 26 _ rfl (wa + 1) rfl 26 kc (0, 0) _ ((HLD.out w8 HJ8.out).2.1) Try.underlying26 rfl HKI.out ?_
    case hwl3b => kernel_rfl
    simp only [Act.put, List.setIfInBounds_toArray, List.set_cons_zero, List.set_cons_succ]
    refine wpList_build_one_g ?hwl3c _ 23 26 rfl i0 z0 Try.underlying23 HI0.out HZ0.out kc rfl (by rw [HS0.out]; exact HK32.out) (by rw [HS0.out]; decide) (by rw [HS0.out]; decide) ?_
    case hwl3c => kernel_rfl
    simp only [Act.put, List.setIfInBounds_toArray, List.set_cons_zero, List.set_cons_succ]
    refine wpList_load_row_g ?hwl3d 26 _ rfl (wm) rfl 26 cu (0, 0) _ ((HLD.out _ HJA.out).2.2) Try.underlying26 rfl HIU.out ?_
    case hwl3d => kernel_rfl
    simp only [Act.put, List.setIfInBounds_toArray, List.set_cons_zero, List.set_cons_succ]
    refine wpList_build_one_g ?hwl3e _ 23 26 rfl i0 z0 Try.underlying23 HI0.out HZ0.out cu rfl (by rw [HS0.out]; exact Hcs.out) (by rw [HS0.out]; decide) (by rw [HS0.out]; decide) ?_
    case hwl3e => kernel_rfl
    simp only [Act.put, List.setIfInBounds_toArray, List.set_cons_zero, List.set_cons_succ]
    refine @BigFrame.wpList_want _ _ _ _ _ _ _ ?hwl3f ?_
    case hwl3f => kernel_rfl
    intro K hK
    go_simp
    go_at_call 39; refine HN2.out.mono ?_; rintro e w9 ⟨rfl, b9, f9⟩
    refine hK _ _ ?_
    clear hK K
    have J9 : WrapRows w9 wa wm ac kc cu := WrapRows.fr HJB.out f9
    have F9 : BkFr base w w9 := HF8.out.trans f9
    have hse9 := HSEAL.out w9 b9 (F9.base HBASE.out) (HSV.out w9 F9)
    have HSE9 := Lib.hid hse9
    have HF9 := Lib.hid F9
    have HJ9 := Lib.hid J9
    clear J9 b9 f9 F9 hse9
    go_upto_region 4 with fail
    refine wp_region_lit ?_
    refine @BigFrame.wpList_want _ _ _ _ _ _ _ ?hwl3g ?_
    case hwl3g => kernel_rfl
    intro K hK
    go_simp
    refine hK _ _ ?_
    clear hK K
    refine wpList_load_row_g ?hwl3h 26 _ rfl (wm) rfl 26 cu (0, 0) _ ((HLD.out w9 HJ9.out).2.2) Try.underlying26 rfl HIU.out ?_
    case hwl3h => kernel_rfl
    simp only [Act.put, List.setIfInBounds_toArray, List.set_cons_zero, List.set_cons_succ]
    refine @BigFrame.wpList_want _ _ _ _ _ _ _ ?hwl3i ?_
    case hwl3i => kernel_rfl
    intro K hK
    go_simp
    refine hK _ _ ?_
    clear hK K
    refine @BigFrame.wpList_want _ _ _ _ _ _ _ ?hwl3j ?_
    case hwl3j => kernel_rfl
    intro K hK
    go_simp
    refine hK _ _ ?_
    clear hK K
    refine @BigFrame.wpList_want _ _ _ _ _ _ _ ?hwl3k ?_
    case hwl3k => kernel_rfl
    intro K hK
    go_simp
    refine hK _ _ ?_
    clear hK K
    refine @BigFrame.wpList_want _ _ _ _ _ _ _ ?hwl3m ?_
    case hwl3m => kernel_rfl
    intro K hK
    go_simp
    go_at_call 13; refine HSE9.out.mono ?_; rintro e w10 ⟨rfl, b10, f10⟩
    refine hK _ _ ?_
    clear hK K
    refine @BigFrame.wpList_want _ _ _ _ _ _ _ ?hwl3n ?_
    case hwl3n => kernel_rfl
    intro K hK
    go_simp
    refine hK _ _ ?_
    clear hK K
    have J10 : WrapRows w10 wa wm ac kc cu := WrapRows.fr HJ9.out f10
    have HE10 := Lib.hid (show InBook w10 base bb fs3 (n + 9) ∧ BkFr base w w10 from ⟨b10, HF9.out.trans f10⟩)
    have cv := HCV.out w10 (wa + 1) (HLD.out w10 J10).2.1
    have HJ10 := Lib.hid J10
    clear J10 b10 f10
    go_upto_region 5 with fail
    refine wp_region_lit ?_
    refine @BigFrame.wpList_want _ _ _ _ _ _ _ ?hwl3o ?_
    case hwl3o => kernel_rfl
    intro K hK
    go_simp
    refine hK _ _ ?_
    clear hK K
    refine @BigFrame.wpList_want _ _ _ _ _ _ _ ?hwl3p ?_
    case hwl3p => kernel_rfl
    intro K hK
    go_simp
    refine hK _ _ ?_
    clear hK K
    generalize hq : (sl == []) = qb
    have HEND := HE10
    cases qb with
    | true =>
      go_wp2
      all_goals go_ret
      all_goals first
        | exact ⟨rfl, HEND.out⟩
        | (exfalso; simp_all; done)
    | false =>
      go_wp2
      all_goals go_ret
      all_goals first
        | exact ⟨rfl, HEND.out⟩
        | (exfalso; simp_all; done)

end Go.Proofs.Ytohichignjjleaa

namespace Go.Proofs.Ytohichignjjleaa
open Go.ChangeShapes Go.WideShapes Go.ChangeAt Go.RowKit Go.Deep

structure Ac where
  kind : Int
  a : List UInt8
  b : List UInt8
  text : ByteArray
  secs : List (List UInt8)
instance : Inhabited Ac := ⟨⟨0, [], [], ⟨#[]⟩, []⟩⟩
/-- A slice of them. -/
def As (w : World) (v : Value) (L : List Ac) : Prop :=
  (∀ x ∈ L, x.a.length = 32 ∧ x.b.length = 32 ∧ x.text.size ≤ maxLen) ∧ ∃ ad g o c, v = .slice ad L.length c ∧ ∀ i (hi : i < L.length), ad = some ⟨g, o, none⟩ ∧ g < w.heap.size ∧ w.cell? ⟨g, o + i * 67, none⟩ = some (.int .u8 L[i].kind) ∧ w.rangeAt g (o + i * 67 + 1) (bcells L[i].a) ∧ w.rangeAt g (o + i * 67 + 33) (bcells L[i].b) ∧ w.cell? ⟨g, o + i * 67 + 65, none⟩ = some (.string L[i].text) ∧ ∃ sv, w.cell? ⟨g, o + i * 67 + 66, none⟩ = some sv ∧ Hs w sv L[i].secs ∧ Whole sv
theorem As.kept {w w' : World} {v : Value} {L : List Ac} (h : As w v L) (k : Kept w.heap.size w.heap.size w w') : As w' v L := by
  obtain ⟨h0, ad, g, o, c, rfl, h1⟩ := h
  refine ⟨h0, ad, g, o, c, rfl, fun i hi => ?_⟩
  obtain ⟨e, hg, h2, h3, h4, h5, sv, h6, h7, h8⟩ := h1 i hi
  have hne := Nat.ne_of_lt hg
  exact ⟨e, Nat.lt_of_lt_of_le hg k.size, (k.cell (p := ⟨g, o + i * 67, none⟩) hg hne).trans h2, rangeAt_kept k h3 hg hne, rangeAt_kept k h4 hg hne, (k.cell (p := ⟨g, o + i * 67 + 65, none⟩) hg hne).trans h5, sv, (k.cell (p := ⟨g, o + i * 67 + 66, none⟩) hg hne).trans h6, h7.kept k, h8⟩

theorem part_at {es X : List Value} {off n j : Nat} {v : Value} (h : (es.drop off).take n = X) (hj : X[j]? = some v) : es[off + j]? = some v := by
  rw [← h, List.getElem?_take] at hj
  split at hj
  · rwa [List.getElem?_drop] at hj
  · cases hj
theorem actCells : Try.prog.cellsOf 28 = 67 := by kernel_rfl
theorem byteCells1 : Try.prog.cellsOf 5 = 1 := by kernel_rfl
theorem stringCells1 : Try.prog.cellsOf 9 = 1 := by kernel_rfl
section
variable {H : Type} {enc : TypeId × Value → H} {P : Program} {w : World} {base : Nat} {spare : Nat → Bool} {held : Bool}
theorem trod_five {t : TypeId} {f0 f1 f2 f3 f4 : Field} {fuel : Nat} {cs : List Value} {x : DataW H × List MemPlace} (ht : P.underlying t = some (.struct #[f0, f1, f2, f3, f4])) (h : DataW.trod enc P w base spare held fuel t cs = some x) :
    ∃ y0 y1 y2 y3 y4 n, DataW.trod enc P w base spare held n f0.type ((cs.drop f0.offset).take (P.cellsOf f0.type)) = some y0 ∧ DataW.trod enc P w base spare held n f1.type ((cs.drop f1.offset).take (P.cellsOf f1.type)) = some y1 ∧ DataW.trod enc P w base spare held n f2.type ((cs.drop f2.offset).take (P.cellsOf f2.type)) = some y2 ∧
      DataW.trod enc P w base spare held n f3.type ((cs.drop f3.offset).take (P.cellsOf f3.type)) = some y3 ∧ DataW.trod enc P w base spare held n f4.type ((cs.drop f4.offset).take (P.cellsOf f4.type)) = some y4 := by
  obtain ⟨xs, n, _, rfl, hl, hlen, hf⟩ := DataW.trod_struct ht h
  match xs, hlen with
  | [y0, y1, y2, y3, y4], _ => exact ⟨y0, y1, y2, y3, y4, n, by simpa using hf 0 f0 rfl, by simpa using hf 1 f1 rfl, by simpa using hf 2 f2 rfl, by simpa using hf 3 f3 rfl, by simpa using hf 4 f4 rfl⟩
end
theorem open_acts {H : Type} {enc : TypeId × Value → H} {w : World} {base : Nat} {spare : Nat → Bool} {held : Bool} {v : Value} {d : DataW H} {p : List MemPlace} (hv : ∃ ao len cap, v = .slice ao len cap) (h : DataW.Trod enc Try.prog w base spare held 22 v d p) : ∃ L, As w v L := by
  obtain ⟨ao, len, cap, rfl⟩ := hv
  obtain ⟨fuel, hf⟩ := h
  rcases open_slice Try.underlying22 hf with hc | ⟨a, len', cap', hc, n, EE, RR, hEE, hel⟩
  · simp [Value.cells] at hc
    obtain ⟨rfl, rfl, rfl⟩ := hc
    exact ⟨[], (fun _ h => (nomatch h)), none, 0, 0, 0, rfl, fun i hi => absurd hi (Nat.not_lt_zero _)⟩
  · simp [Value.cells] at hc
    obtain ⟨rfl, rfl, rfl⟩ := hc
    rw [actCells] at hel
    have key : ∀ i, i < len → ∃ f : Ac, (f.a.length = 32 ∧ f.b.length = 32 ∧ f.text.size ≤ maxLen) ∧ a.spot = none ∧ a.block < w.heap.size ∧ w.cell? ⟨a.block, a.off + i * 67, none⟩ = some (.int .u8 f.kind) ∧ w.rangeAt a.block (a.off + i * 67 + 1) (bcells f.a) ∧ w.rangeAt a.block (a.off + i * 67 + 33) (bcells f.b) ∧ w.cell? ⟨a.block, a.off + i * 67 + 65, none⟩ = some (.string f.text) ∧ ∃ sv, w.cell? ⟨a.block, a.off + i * 67 + 66, none⟩ = some sv ∧ Hs w sv f.secs ∧ Whole sv := fun i hi => by
      obtain ⟨es, y, h1, h2, hyE⟩ := hel i hi
      obtain ⟨y0, y1, y2, y3, y4, m, g0, g1, g2, g3, g4⟩ := trod_five Try.underlying28 h2
      simp only at g0 g1 g2 g3 g4
      rw [byteCells1] at g0
      rw [hashCells30] at g1 g2
      rw [stringCells1] at g3
      rw [hashesCells] at g4
      obtain ⟨kd, hk, _⟩ := DataW.trod_int Try.underlying5 g0
      obtain ⟨la, hla, ha⟩ := open_hash_cells g1
      obtain ⟨lb, hlb, hb⟩ := open_hash_cells g2
      obtain ⟨s, hs, hy0, hz⟩ := DataW.trod_string Try.underlying9 g3
      obtain ⟨sv, L, hsv, hS, hW⟩ := open_hashes_cells g4
      have e1 : a.spot = none := by
        obtain ⟨_, _, h0, _⟩ := hel 0 (by omega)
        exact spot_of (by decide) h0
      obtain ⟨e2, _, e3⟩ := cells_spot e1 (by decide) h1
      refine ⟨⟨kd, la, lb, s, L⟩, ⟨hla, hlb, hz⟩, e1, e2, ?_, fun j u hj => ?_, fun j u hj => ?_, ?_, sv, ?_, hS, hW⟩
      · exact e3 0 _ (part_at (off := 0) (j := 0) hk rfl)
      · have := e3 (1 + j) u (part_at ha hj)
        rwa [← Nat.add_assoc] at this
      · have := e3 (33 + j) u (part_at hb hj)
        rwa [← Nat.add_assoc] at this
      · exact e3 65 _ (part_at (j := 0) hs rfl)
      · exact e3 66 _ (part_at (j := 0) hsv rfl)
    obtain ⟨f, hf⟩ := choose_lt (α := Ac) key
    refine ⟨(List.range len).map f, fun x hx => ?_, some a, a.block, a.off, cap, by simp, fun i hi => ?_⟩
    · obtain ⟨i, hi, rfl⟩ := List.mem_map.1 hx
      exact (hf i (List.mem_range.1 hi)).1
    · have hi' : i < len := by simpa using hi
      obtain ⟨_, e1, e2, e3⟩ := hf i hi'
      refine ⟨?_, e2, ?_⟩
      · obtain ⟨g, o, s⟩ := a
        simp only at e1
        subst e1
        rfl
      · simpa using e3

end Go.Proofs.Ytohichignjjleaa

namespace Go.Proofs.Ytohichignjjleaa

namespace Pm
/-- What a wrap notes. -/
def wnote (p : List UInt8) (fs : Facts) (x : Ac) : Facts := Bk.note (Bk.note (Bk.note fs ([mark p], [kem p x.b])) ([x.b], [kem p x.b])) ([kem p x.b], x.secs)
def wnotes (p : List UInt8) (fs : Facts) (L : List Ac) : Facts := L.foldl (wnote p) fs
end Pm
end Go.Proofs.Ytohichignjjleaa

namespace Go.Proofs.Ytohichignjjleaa
open Go.RowKit Go.Lib

set_option maxRecDepth 100000 in
set_option maxHeartbeats 3200000 in
theorem pub_book (base bb n : Nat) (fs : Facts) (k : List UInt8) (hk : Hid (k.length = 32)) (w : World) (hB : InBook w base bb fs n) (hbase : base ≤ w.heap.size) (hm : Mild fs n) : Calls Try.prog 12 #[.pointer (some ⟨bb, 0, none⟩), .agg (bcells k).toArray] w fun e w' => e = .returned (.agg (bcells (Pm.pub k)).toArray) ∧ InBook w' base bb (Bk.note fs ([k], [Pm.mark (Pm.pub k)])) (n + 3) ∧ BkFr base w w' := by
  obtain ⟨fs2, hfs2⟩ : ∃ fs2, fs2 = Bk.note fs ([k], [Pm.mark (Pm.pub k)]) := ⟨_, rfl⟩
  rw [← hfs2]
  have HF2 := Lib.hid hfs2
  clear hfs2
  have hku := keyInfo hk.out
  have hk1 : (bcells k).toArray.size = 32 := by rw [List.size_toArray, bcells_length, hk.out]
  generalize hkc : (bcells k).toArray = kc at hku hk1
  have Hkc := Lib.hid hkc
  have HKI := Lib.hid hku
  have HK32 := Lib.hid hk1
  clear hkc hku hk1
  obtain ⟨i0, z0, hi0, hz0, hzs0, hs0, hb0⟩ := hash_info
  have HI0 := Lib.hid hi0
  have HZ0 := Lib.hid hz0
  have HS0 := Lib.hid hs0
  clear hi0 hz0 hzs0 hs0 hb0
  go_enter Try.func12, Try.ntmps12
  go_upto_region 1 with fail
  rw [zeros32_eq]
  have hP : ((w.alloc (.cells kc 26)).alloc (.cells zeros32 26)).heap[w.heap.size]? = some (.cells kc 26 (0, 0)) := heap_alloc2_old w _ _
  have hR : ((w.alloc (.cells kc 26)).alloc (.cells zeros32 26)).heap[w.heap.size + 1]? = some (.cells zeros32 26 (0, 0)) := heap_alloc2_last w _ _
  have k1 : Kept w.heap.size w.heap.size w ((w.alloc (.cells kc 26)).alloc (.cells zeros32 26)) := ((Kept.refl _ _ _).alloc (Nat.le_refl _) _).alloc (by simp) _
  have s1 : ((w.alloc (.cells kc 26)).alloc (.cells zeros32 26)).heap.size = w.heap.size + 2 := by simp
  generalize (w.alloc (.cells kc 26)).alloc (.cells zeros32 26) = w1 at hP hR k1 s1 ⊢
  obtain ⟨wa, hwa⟩ : ∃ wa, wa = w.heap.size := ⟨_, rfl⟩
  rw [← hwa] at hP hR k1 s1 ⊢
  have hrow : ∀ w', Kept w1.heap.size w1.heap.size w1 w' → w'.heap[wa + 1]? = some (.cells zeros32 26 (0, 0)) := fun w' kk => (kk.block (wa + 1) (by omega) (by omega)).trans hR
  have hkey : ∀ w', Kept w1.heap.size w1.heap.size w1 w' → w'.heap[wa]? = some (.cells kc 26 (0, 0)) := fun w' kk => (kk.block wa (by omega) (by omega)).trans hP
  have cA : (convert 45 9 (.slice (some ⟨wa, 0, none⟩) 32 32)).run Try.prog w1 = .ok (.string (str k)) w1 := conv_hash hk.out (by rw [Hkc.out]; exact hP)
  have hdv := sum_two ⟨#[112, 117, 98]⟩ (str k) w1 (by decide) (by rw [str_size, hk.out]; decide)
  rw [show Sm.sum ((⟨#[112, 117, 98]⟩ : ByteArray).data.toList ++ (str k).data.toList) = Pm.pub k from rfl] at hdv
  have hdl : (Pm.pub k).length = 32 := Pm.pub_length k
  have hmk : ∀ w', Calls Try.prog 44 #[.agg (bcells (Pm.pub k)).toArray] w' fun e w'' => e = .returned (.agg (bcells (Pm.mark (Pm.pub k))).toArray) ∧ Kept w'.heap.size w'.heap.size w' w'' := fun w' => mark_calls (Pm.pub k) (Lib.hid hdl) w'
  have hml : (Pm.mark (Pm.pub k)).length = 32 := Pm.mark_length _
  have hmz : (bcells (Pm.mark (Pm.pub k))).toArray.size = 32 := by rw [List.size_toArray, bcells_length, hml]
  have hbw : ∀ w', Kept w.heap.size w.heap.size w w' → InBk w' base bb fs n (fun i => i = wa + 1) := fun w' kk => (hB.apart (fun i => i = wa + 1) (fun i hi => by omega)).kept kk
  have hmn : ∀ (w' : World) (g h : Nat), InBk w' base bb fs n (fun i => i = wa + 1) → base ≤ w'.heap.size → wa + 1 < w'.heap.size → w'.heap[g]? = some (.cells kc 26 (0, 0)) → w'.heap[h]? = some (.cells (bcells (Pm.mark (Pm.pub k))).toArray 26 (0, 0)) → Calls Try.prog 39 #[.pointer (some ⟨bb, 0, none⟩), .slice (some ⟨g, 0, none⟩) 1 1, .slice (some ⟨h, 0, none⟩) 1 1] w' fun e w'' => e = .returned (.tuple #[]) ∧ InBk w'' base bb fs2 (n + 3) (fun i => i = wa + 1) ∧ BkFr base w' w'' := fun w' g h hI hb1 hb2 hg hh => by
    rw [HF2.out]
    exact pnote_book base bb n fs _ k hk.out [Pm.mark (Pm.pub k)] g 1 _ w' hI hb1 (fun i hi => by omega) hm (by show 1 < _; decide) (by rw [Hkc.out]; exact hg) (hs_one hml hh) (fun _ _ e => by cases e)
  have HBW := Lib.hid hbw
  have HBASE := Lib.hid hbase
  clear hbw hB hm
  generalize (bcells (Pm.mark (Pm.pub k))).toArray = cm at hmk hmz hmn
  generalize hM : Pm.pub k = m at hdv hdl hmk
  have HM := Lib.hid hM
  clear hM hml
  have hiu := keyInfo (l := m) (hdl)
  have hzu := keySize (l := m) (hdl)
  have hcs : (bcells (m)).toArray.size = 32 := by rw [List.size_toArray, bcells_length, hdl]
  have hall := bcells_all (m)
  generalize hcu : (bcells (m)).toArray = cu at hiu hzu hcs hall hdv hmk
  have HIU := Lib.hid hiu
  have HZU := Lib.hid hzu
  have HALL := Lib.hid hall
  have Hcs := Lib.hid hcs
  have Hcu := Lib.hid hcu
  have HROW := Lib.hid hrow
  have HKEY := Lib.hid hkey
  have HK1 := Lib.hid k1
  have HS1 := Lib.hid s1
  have HWA := Lib.hid hwa
  clear hiu hzu hall hcs hcu hrow hkey k1 s1 hwa
  generalize str k = sk at cA hdv
  have HDV := Lib.hid hdv
  have HMK := Lib.hid hmk
  have HMZ := Lib.hid hmz
  have HMN := Lib.hid hmn
  clear hdv hP hR hmk hmz hmn
  go_upto_region 1 with fail
  refine wp_region_lit ?_
  refine @BigFrame.wpList_want _ _ _ _ _ _ _ ?hwa0 ?_
  case hwa0 => kernel_rfl
  intro K hK
  go_simp
  refine hK _ _ ?_
  clear hK K
  refine @BigFrame.wpList_want _ _ _ _ _ _ _ ?hwa1 ?_
  case hwa1 => kernel_rfl
  intro K hK
  go_simp
  refine hK _ _ ?_
  clear hK K
  refine @BigFrame.wpList_want _ _ _ _ _ _ _ ?hwa2 ?_
  case hwa2 => kernel_rfl
  intro K hK
  go_simp
  refine hK _ _ ?_
  clear hK K
  refine @BigFrame.wpList_want _ _ _ _ _ _ _ ?hwa3 ?_
  case hwa3 => kernel_rfl
  intro K hK
  go_simp
  go_at_call 43; refine HDV.out.mono ?_; rintro e w3 ⟨rfl, k3⟩
  refine hK _ _ ?_
  clear hK K
  have k3' : Kept w1.heap.size w1.heap.size w1 w3 := ((Kept.refl _ _ _).alloc (Nat.le_refl _) _).trans (k3.mono (Nat.le_succ _) (fun i hi _ => by omega))
  refine wpList_alloc_k rfl 26 rfl (alloc_zero _) ?_
  simp only [Act.put, List.setIfInBounds_toArray, List.set_cons_zero, List.set_cons_succ]
  refine wpList_store_row rfl 26 _ _ rfl (w3.heap.size) cu rfl rfl 26 zeros32 (heap_new _ _) HIU.out HZU.out HALL.out ?_
  simp only [Act.put]
  have K4 : Kept w1.heap.size w1.heap.size w1 (w3.alloc (.cells zeros32 26)) := k3'.alloc k3'.size _
  have K5 : Kept w1.heap.size w1.heap.size w1 ((w3.alloc (.cells zeros32 26)).setRow w3.heap.size cu) := Kept.ofBelow (below_setRow (K4.below (Nat.le_refl _) (Nat.le_refl _)) k3'.size cu) (Nat.le_refl _)
  have r5 := setRow_heap (w3.alloc (.cells zeros32 26)) w3.heap.size zeros32 cu _ _ (heap_new _ _)
  generalize (w3.alloc (.cells zeros32 26)).setRow w3.heap.size cu = w5 at K5 r5 ⊢
  have hwm : w1.heap.size ≤ w3.heap.size := k3'.size
  generalize w3.heap.size = wm at r5 hwm ⊢
  clear K4
  have hss : ∀ w', Kept w5.heap.size w5.heap.size w5 w' → w'.heap[wa]? = some (.cells kc 26 (0, 0)) ∧ w'.heap[wm]? = some (.cells cu 26 (0, 0)) ∧ w'.heap[wa + 1]? = some (.cells zeros32 26 (0, 0)) := fun w' kk => by
    have rk := HKEY.out w5 K5
    have rz := HROW.out w5 K5
    exact ⟨(kk.block _ (lt_of_block rk) (Nat.ne_of_lt (lt_of_block rk))).trans rk, (kk.block _ (lt_of_block r5) (Nat.ne_of_lt (lt_of_block r5))).trans r5, (kk.block _ (lt_of_block rz) (Nat.ne_of_lt (lt_of_block rz))).trans rz⟩
  have hld : ∀ w', (w'.heap[wa]? = some (.cells kc 26 (0, 0)) ∧ w'.heap[wm]? = some (.cells cu 26 (0, 0)) ∧ w'.heap[wa + 1]? = some (.cells zeros32 26 (0, 0))) → (loadVar 26 ⟨wa, 0, none⟩).run Try.prog w' = .ok (.agg kc) w' ∧ (loadVar 26 ⟨wm, 0, none⟩).run Try.prog w' = .ok (.agg cu) w' := fun w' hr =>
    ⟨run_loadVar_row w' wa 26 26 kc (0, 0) _ hr.1 Try.underlying26 rfl HKI.out, run_loadVar_row w' wm 26 26 cu (0, 0) _ hr.2.1 Try.underlying26 rfl HIU.out⟩
  have hw5 : ∀ w', Kept w5.heap.size w5.heap.size w5 w' → Kept w.heap.size w.heap.size w w' := fun w' kk => by
    have e1 := HWA.out
    have k15 : Kept w1.heap.size w1.heap.size w1 w' := K5.trans (kk.mono K5.size (fun i hi _ => by have := K5.size; omega))
    have e2 := HS1.out
    rw [← e1]
    exact HK1.out.trans (k15.mono (by omega) (fun i hi _ => by omega))
  have hcc : ∀ wc, Kept w5.heap.size w5.heap.size w5 wc → InBk wc base bb fs n (fun i => i = wa + 1) ∧ base ≤ wc.heap.size ∧ wa + 1 < wc.heap.size := fun wc kk => ⟨HBW.out wc (hw5 wc kk), Nat.le_trans HBASE.out (hw5 wc kk).size, lt_of_block (hss wc kk).2.2⟩
  have hsn : ∀ wc w', Kept w5.heap.size w5.heap.size w5 wc → BkFr base wc w' → w'.heap[wa]? = some (.cells kc 26 (0, 0)) ∧ w'.heap[wm]? = some (.cells cu 26 (0, 0)) ∧ w'.heap[wa + 1]? = some (.cells zeros32 26 (0, 0)) := fun wc w' kk ff => ⟨ff.row (hss wc kk).1, ff.row (hss wc kk).2.1, ff.row (hss wc kk).2.2⟩
  have hfr : ∀ wc w', Kept w5.heap.size w5.heap.size w5 wc → BkFr base wc w' → BkFr base w w' := fun wc w' kk ff => (BkFr.ofKept HBASE.out (hw5 wc kk)).trans ff
  have HSS := Lib.hid hss
  have HLD := Lib.hid hld
  have HCC := Lib.hid hcc
  have HSN := Lib.hid hsn
  have HFR := Lib.hid hfr
  clear hss hld hw5 hcc hsn hfr r5 cA
  go_upto_region 2 with fail
  refine wp_region_noPanic ?_
  refine wp_region_held_drew (S := fun w' => w'.heap[wa]? = some (.cells kc 26 (0, 0)) ∧ w'.heap[wm]? = some (.cells cu 26 (0, 0)) ∧ w'.heap[wa + 1]? = some (.cells zeros32 26 (0, 0))) (by kernel_rfl) (HSS.out _ (Kept.refl _ _ _).drew) (fun hH => ?_)
  refine wpAnyH_take_at (i := 0) 10 (.pointer (some ⟨bb, 0, none⟩)) rfl rfl (by kernel_rfl) (by kernel_rfl) (by kernel_rfl) (fun _ _ _ h => h) (.inl ⟨by rfl, fun w9 _ => by go_simp⟩) hH ?_
  simp only [List.setIfInBounds_toArray, List.set_cons_zero, List.set_cons_succ]
  refine wpAnyH_take_at (i := 1) 11 (.agg kc) rfl rfl (by kernel_rfl) (by kernel_rfl) (by kernel_rfl) (fun _ _ _ h => h) (yieldsIf_load_known (by rfl) 26 _ rfl (wa) (0) rfl (.agg kc) (fun w' hw' => (HLD.out w' hw').1)) hH ?_
  simp only [List.setIfInBounds_toArray, List.set_cons_zero, List.set_cons_succ]
  refine wpAnyH_take_at (i := 3) 13 (.agg cu) rfl rfl (by kernel_rfl) (by kernel_rfl) (by kernel_rfl) (fun _ _ _ h => h) (yieldsIf_load_known (by rfl) 26 _ rfl (wm) (0) rfl (.agg cu) (fun w' hw' => (HLD.out w' hw').2)) hH ?_
  simp only [List.setIfInBounds_toArray, List.set_cons_zero, List.set_cons_succ]
  refine wpAnyH_ready (rs := [2, 4]) (by kernel_rfl) (by simp) ?_
  refine AllReadyH.cons rfl (fun K hK => ?_) ?_
  · rw [if_pos (by rfl)]
    refine wp_build_one _ 23 26 rfl i0 z0 Try.underlying23 HI0.out HZ0.out kc rfl (by rw [HS0.out]; exact HK32.out) (by rw [HS0.out]; decide) (by rw [HS0.out]; decide) ?_
    simp only [Act.put, List.setIfInBounds_toArray]
    have KA : Kept w5.heap.size w5.heap.size w5 (w5.drew.alloc (.cells kc 26)) := (Kept.refl _ _ _).drew.alloc (Nat.le_refl _) _
    have rA : (w5.drew.alloc (.cells kc 26)).heap[w5.drew.heap.size]? = some (.cells kc 26 (0, 0)) := heap_new _ _
    refine hK.out _ _ (HSS.out _ KA) (fun hH => ?_)
    clear hK K
    refine wpAnyH_ready (rs := [4]) (by kernel_rfl) (by simp) ?_
    refine AllReadyH.cons rfl (fun K hK => ?_) AllReadyH.nil
    rw [if_pos (by rfl)]
    go_simp
    go_wp2_with (go_at_call 44; refine (HMK.out _).mono ?_; rintro e w6 ⟨rfl, k6⟩)
    have KB : Kept w5.heap.size w5.heap.size w5 w6 := KA.trans (k6.mono KA.size (fun i hi _ => Nat.ne_of_lt (Nat.lt_of_lt_of_le hi KA.size)))
    have rB := (k6.block _ (lt_of_block rA) (Nat.ne_of_lt (lt_of_block rA))).trans rA
    refine hK.out _ _ (HSS.out _ KB) (fun hH => ?_)
    clear hK K
    refine wpAnyH_ready (rs := [5]) (by kernel_rfl) (by simp) ?_
    refine AllReadyH.cons rfl (fun K hK => ?_) AllReadyH.nil
    rw [if_pos (by rfl)]
    refine wp_build_one _ 23 26 rfl i0 z0 Try.underlying23 HI0.out HZ0.out cm rfl (by rw [HS0.out]; exact HMZ.out) (by rw [HS0.out]; decide) (by rw [HS0.out]; decide) ?_
    simp only [Act.put, List.setIfInBounds_toArray]
    have KC : Kept w5.heap.size w5.heap.size w5 (w6.alloc (.cells cm 26)) := KB.alloc KB.size _
    have rC : (w6.alloc (.cells cm 26)).heap[w5.drew.heap.size]? = some (.cells kc 26 (0, 0)) := by rw [Below.heap_alloc _ _ _ (lt_of_block rB)]; exact rB
    refine hK.out _ _ (HSS.out _ KC) (fun hH => ?_)
    clear hK K
    refine wpAnyH_ready (rs := [6]) (by kernel_rfl) (by simp) ?_
    refine AllReadyH.cons rfl (fun K hK => ?_) AllReadyH.nil
    rw [if_pos (by rfl)]
    go_simp
    go_wp2_with (go_at_call 39; refine (HMN.out _ (w5.drew.heap.size) (w6.heap.size) (HCC.out _ KC).1 (HCC.out _ KC).2.1 (HCC.out _ KC).2.2 (rC) (heap_new _ _)).mono ?_; rintro e w8 ⟨rfl, b8, f8⟩)
    refine hK.out _ _ (HSN.out _ _ KC f8) (fun hH => ?_)
    clear hK K
    refine wpAnyH_done (by kernel_rfl) ?_ _
    refine NoPanic.normal ?_
    have F8 := HFR.out _ _ KC f8
    have n8 := HSN.out _ _ KC f8
    have R8 := Lib.hid n8.2.1
    have Z8 := Lib.hid n8.2.2
    have HB8 := Lib.hid b8
    have HF8 := Lib.hid F8
    clear n8 b8 F8 f8
    go_upto_region 3 with fail
    refine wp_region_lit ?_
    refine wpList_load_row_g ?hwl1 26 _ rfl (wm) rfl 26 cu (0, 0) _ (R8.out) Try.underlying26 rfl HIU.out ?_
    case hwl1 => kernel_rfl
    simp only [Act.put, List.setIfInBounds_toArray, List.set_cons_zero, List.set_cons_succ]
    refine wpList_store_row rfl 26 _ _ rfl (wa + 1) cu rfl rfl 26 zeros32 (Z8.out) HIU.out HZU.out HALL.out ?_
    simp only [Act.put]
    have HMM := HM.out
    have t2 := setRow_heap w8 (wa + 1) zeros32 cu _ _ (Z8.out)
    have t1 : BkFr base w (w8.setRow (wa + 1) cu) := HF8.out.put HBASE.out (wa + 1) (by have := HWA.out; omega) cu
    have b9 : InBook (w8.setRow (wa + 1) cu) base bb fs2 (n + 3) := (HB8.out.put (wa + 1) rfl zeros32 cu (0, 0) Z8.out).book
    have hiu := HIU.out
    go_wp2_with fail
    refine bodyPost_ret (results_cell_row rfl _ _ (wa + 1) 26 cu (0, 0) _ rfl t2 Try.underlying26 rfl hiu) rfl ?_
    exact ⟨by rw [HMM, Hcu.out], b9, t1⟩
  · refine AllReadyH.cons rfl (fun K hK => ?_) AllReadyH.nil
    rw [if_pos (by rfl)]
    go_simp
    go_wp2_with (go_at_call 44; refine (HMK.out _).mono ?_; rintro e w6 ⟨rfl, k6⟩)
    have KB : Kept w5.heap.size w5.heap.size w5 w6 := (Kept.refl _ _ _).drew.trans k6
    refine hK.out _ _ (HSS.out _ KB) (fun hH => ?_)
    clear hK K
    refine wpAnyH_ready (rs := [2, 5]) (by kernel_rfl) (by simp) ?_
    refine AllReadyH.cons rfl (fun K hK => ?_) ?_
    · rw [if_pos (by rfl)]
      refine wp_build_one _ 23 26 rfl i0 z0 Try.underlying23 HI0.out HZ0.out kc rfl (by rw [HS0.out]; exact HK32.out) (by rw [HS0.out]; decide) (by rw [HS0.out]; decide) ?_
      simp only [Act.put, List.setIfInBounds_toArray]
      have KA : Kept w5.heap.size w5.heap.size w5 (w6.alloc (.cells kc 26)) := KB.alloc KB.size _
      have rA : (w6.alloc (.cells kc 26)).heap[w6.heap.size]? = some (.cells kc 26 (0, 0)) := heap_new _ _
      have sA : (w6.alloc (.cells kc 26)).heap.size = w6.heap.size + 1 := by simp
      refine hK.out _ _ (HSS.out _ KA) (fun hH => ?_)
      clear hK K
      refine wpAnyH_ready (rs := [5]) (by kernel_rfl) (by simp) ?_
      refine AllReadyH.cons rfl (fun K hK => ?_) AllReadyH.nil
      rw [if_pos (by rfl)]
      refine wp_build_one _ 23 26 rfl i0 z0 Try.underlying23 HI0.out HZ0.out cm rfl (by rw [HS0.out]; exact HMZ.out) (by rw [HS0.out]; decide) (by rw [HS0.out]; decide) ?_
      simp only [Act.put]
      have KC : Kept w5.heap.size w5.heap.size w5 ((w6.alloc (.cells kc 26)).alloc (.cells cm 26)) := KA.alloc KA.size _
      have rC : ((w6.alloc (.cells kc 26)).alloc (.cells cm 26)).heap[w6.heap.size]? = some (.cells kc 26 (0, 0)) := by rw [Below.heap_alloc _ _ _ (lt_of_block rA)]; exact rA
      refine hK.out _ _ (HSS.out _ KC) (fun hH => ?_)
      clear hK K
      have rD : ((w6.alloc (.cells kc 26)).alloc (.cells cm 26)).heap[w6.heap.size + 1]? = some (.cells cm 26 (0, 0)) := by rw [← sA]; exact heap_new _ _
      refine wpAnyH_ready (rs := [6]) (by kernel_rfl) (by simp) ?_
      refine AllReadyH.cons rfl (fun K hK => ?_) AllReadyH.nil
      rw [if_pos (by rfl)]
      go_simp
      go_wp2_with (go_at_call 39; refine (HMN.out _ (w6.heap.size) (w6.heap.size + 1) (HCC.out _ KC).1 (HCC.out _ KC).2.1 (HCC.out _ KC).2.2 (rC) (rD)).mono ?_; rintro e w8 ⟨rfl, b8, f8⟩)
      refine hK.out _ _ (HSN.out _ _ KC f8) (fun hH => ?_)
      clear hK K
      refine wpAnyH_done (by kernel_rfl) ?_ _
      refine NoPanic.normal ?_
      have F8 := HFR.out _ _ KC f8
      have n8 := HSN.out _ _ KC f8
      have R8 := Lib.hid n8.2.1
      have Z8 := Lib.hid n8.2.2
      have HB8 := Lib.hid b8
      have HF8 := Lib.hid F8
      clear n8 b8 F8 f8
      go_upto_region 3 with fail
      refine wp_region_lit ?_
      refine wpList_load_row_g ?hwl2 26 _ rfl (wm) rfl 26 cu (0, 0) _ (R8.out) Try.underlying26 rfl HIU.out ?_
      case hwl2 => kernel_rfl
      simp only [Act.put, List.setIfInBounds_toArray, List.set_cons_zero, List.set_cons_succ]
      refine wpList_store_row rfl 26 _ _ rfl (wa + 1) cu rfl rfl 26 zeros32 (Z8.out) HIU.out HZU.out HALL.out ?_
      simp only [Act.put]
      have HMM := HM.out
      have t2 := setRow_heap w8 (wa + 1) zeros32 cu _ _ (Z8.out)
      have t1 : BkFr base w (w8.setRow (wa + 1) cu) := HF8.out.put HBASE.out (wa + 1) (by have := HWA.out; omega) cu
      have b9 : InBook (w8.setRow (wa + 1) cu) base bb fs2 (n + 3) := (HB8.out.put (wa + 1) rfl zeros32 cu (0, 0) Z8.out).book
      have hiu := HIU.out
      go_wp2_with fail
      refine bodyPost_ret (results_cell_row rfl _ _ (wa + 1) 26 cu (0, 0) _ rfl t2 Try.underlying26 rfl hiu) rfl ?_
      exact ⟨by rw [HMM, Hcu.out], b9, t1⟩
    · refine AllReadyH.cons rfl (fun K hK => ?_) AllReadyH.nil
      rw [if_pos (by rfl)]
      refine wp_build_one _ 23 26 rfl i0 z0 Try.underlying23 HI0.out HZ0.out cm rfl (by rw [HS0.out]; exact HMZ.out) (by rw [HS0.out]; decide) (by rw [HS0.out]; decide) ?_
      simp only [Act.put, List.setIfInBounds_toArray]
      have KA : Kept w5.heap.size w5.heap.size w5 (w6.alloc (.cells cm 26)) := KB.alloc KB.size _
      have rA : (w6.alloc (.cells cm 26)).heap[w6.heap.size]? = some (.cells cm 26 (0, 0)) := heap_new _ _
      refine hK.out _ _ (HSS.out _ KA) (fun hH => ?_)
      clear hK K
      refine wpAnyH_ready (rs := [2]) (by kernel_rfl) (by simp) ?_
      refine AllReadyH.cons rfl (fun K hK => ?_) AllReadyH.nil
      rw [if_pos (by rfl)]
      refine wp_build_one _ 23 26 rfl i0 z0 Try.underlying23 HI0.out HZ0.out kc rfl (by rw [HS0.out]; exact HK32.out) (by rw [HS0.out]; decide) (by rw [HS0.out]; decide) ?_
      simp only [Act.put]
      have KC : Kept w5.heap.size w5.heap.size w5 ((w6.alloc (.cells cm 26)).alloc (.cells kc 26)) := KA.alloc KA.size _
      have rC : ((w6.alloc (.cells cm 26)).alloc (.cells kc 26)).heap[w6.heap.size]? = some (.cells cm 26 (0, 0)) := by rw [Below.heap_alloc _ _ _ (lt_of_block rA)]; exact rA
      refine hK.out _ _ (HSS.out _ KC) (fun hH => ?_)
      clear hK K
      have sA : (w6.alloc (.cells cm 26)).heap.size = w6.heap.size + 1 := by simp
      have rD : ((w6.alloc (.cells cm 26)).alloc (.cells kc 26)).heap[w6.heap.size + 1]? = some (.cells kc 26 (0, 0)) := by rw [← sA]; exact heap_new _ _
      refine wpAnyH_ready (rs := [6]) (by kernel_rfl) (by simp) ?_
      refine AllReadyH.cons rfl (fun K hK => ?_) AllReadyH.nil
      rw [if_pos (by rfl)]
      go_simp
      go_wp2_with (go_at_call 39; refine (HMN.out _ (w6.heap.size + 1) (w6.heap.size) (HCC.out _ KC).1 (HCC.out _ KC).2.1 (HCC.out _ KC).2.2 (rD) (rC)).mono ?_; rintro e w8 ⟨rfl, b8, f8⟩)
      refine hK.out _ _ (HSN.out _ _ KC f8) (fun hH => ?_)
      clear hK K
      refine wpAnyH_done (by kernel_rfl) ?_ _
      refine NoPanic.normal ?_
      have F8 := HFR.out _ _ KC f8
      have n8 := HSN.out _ _ KC f8
      have R8 := Lib.hid n8.2.1
      have Z8 := Lib.hid n8.2.2
      have HB8 := Lib.hid b8
      have HF8 := Lib.hid F8
      clear n8 b8 F8 f8
      go_upto_region 3 with fail
      refine wp_region_lit ?_
      refine wpList_load_row_g ?hwl3 26 _ rfl (wm) rfl 26 cu (0, 0) _ (R8.out) Try.underlying26 rfl HIU.out ?_
      case hwl3 => kernel_rfl
      simp only [Act.put, List.setIfInBounds_toArray, List.set_cons_zero, List.set_cons_succ]
      refine wpList_store_row rfl 26 _ _ rfl (wa + 1) cu rfl rfl 26 zeros32 (Z8.out) HIU.out HZU.out HALL.out ?_
      simp only [Act.put]
      have HMM := HM.out
      have t2 := setRow_heap w8 (wa + 1) zeros32 cu _ _ (Z8.out)
      have t1 : BkFr base w (w8.setRow (wa + 1) cu) := HF8.out.put HBASE.out (wa + 1) (by have := HWA.out; omega) cu
      have b9 : InBook (w8.setRow (wa + 1) cu) base bb fs2 (n + 3) := (HB8.out.put (wa + 1) rfl zeros32 cu (0, 0) Z8.out).book
      have hiu := HIU.out
      go_wp2_with fail
      refine bodyPost_ret (results_cell_row rfl _ _ (wa + 1) 26 cu (0, 0) _ rfl t2 Try.underlying26 rfl hiu) rfl ?_
      exact ⟨by rw [HMM, Hcu.out], b9, t1⟩

end Go.Proofs.Ytohichignjjleaa

namespace Go.Proofs.Ytohichignjjleaa
open Go.RowKit Go.Lib


set_option maxRecDepth 100000 in
set_option maxHeartbeats 1600000 in
theorem plain5_calls (L : List (List UInt8)) (v : Value) (w : World) (hL : Hs w v L) (hn : L.length < 1073741824) :
    Calls Try.prog 14 #[v] w fun e w' => ∃ u, e = .returned u ∧ Own w' w.heap.size u L ∧ Kept w.heap.size w.heap.size w w' := by
  obtain ⟨h32, ad, g, o, c, rfl, hcell⟩ := hL
  have HC := Lib.hid hcell
  have H32 := Lib.hid h32
  clear hcell h32
  go_enter Try.func14, Try.ntmps14
  go_wp2_with fail
  go_loopw [3, 4] (fun u i w9 => ∃ k : Nat, k ≤ L.length ∧ i = .int .i64 (k : Int) ∧ Hid (Own w9 w.heap.size u (L.take k)) ∧ Hid (Kept w.heap.size w.heap.size w w9)) (fun _ i _ => L.length - (RowKit.intOf i).toNat)
  case atStart => exact ⟨0, by omega, rfl, Lib.hid (Own.nil _ _), Lib.hid (Kept.refl _ _ _)⟩
  case round =>
    obtain ⟨k, hk, rfl, hO, hK⟩ := hrel
    by_cases hlt : k < L.length
    · obtain ⟨rfl, hg, hr⟩ := HC.out k hlt
      have hx32 := H32.out L[k] (List.getElem_mem hlt)
      have hln : (k : Int) < (L.length : Int) := by omega
      have hk0 : ¬ (k : Int) < 0 := by omega
      have hgx : wr.rangeAt g (o + k * 32) (bcells L[k]) := rangeAt_kept hK.out hr hg (Nat.ne_of_lt hg)
      have hxl : (Try.prog.info? 26).map (·.size) = some (bcells L[k]).length := by rw [bookInfo39, bcells_length, hx32]
      have htk := List.take_succ_eq_append_getElem hlt
      generalize L[k] = X at hx32 hgx hxl htk
      have HR := Lib.hid hgx
      have HXL := Lib.hid hxl
      have HTK := Lib.hid htk
      clear hgx hxl htk hr
      have hal : (wr.alloc (.cells (bcells X).toArray 25)).rangeAt wr.heap.size 0 (bcells X) := fun j v hv => by
        rw [Nat.zero_add]
        exact cells_get (heap_new wr _) hv
      have htl : (L.take k).length = k := by rw [List.length_take]; omega
      obtain ⟨u', w5, hr5, ho5, hg5⟩ := append_digest (wr.alloc (.cells (bcells X).toArray 25)) w.heap.size u3 (L.take k) (hO.out.alloc _) (by have := hK.out.size; simp; omega) wr.heap.size 1 X hx32 hal (by omega)
      have hK5 : Kept w.heap.size w.heap.size w w5 := (hK.out.alloc hK.out.size _).grown hg5 (by have := hK.out.size; simp; omega) (fun k h => (hO.out.low k h).1)
      rw [← HTK.out] at ho5
      obtain ⟨i0, z0, hi0, hz0, hzs0, hs0, hb0⟩ := book_info
      have hcs : (bcells X).toArray.size = i0.size := by rw [List.size_toArray, bcells_length, hx32, hs0]
      have Hr5 := Lib.hid hr5
      have Ho5 := Lib.hid ho5
      have HK5 := Lib.hid hK5
      have HI0 := Lib.hid hi0
      have HZ0 := Lib.hid hz0
      have HCS := Lib.hid hcs
      have HS0 := Lib.hid hs0
      clear hr5 ho5 hg5 hK5 hi0 hz0 hzs0 hs0 hb0 hcs hal htl
      go_wp2_with (first
        | (with_reducible refine wpList_load_mid rfl 26 _ rfl g (o + k * 32) rfl (bcells X) _ HR.out Try.underlying26 rfl HXL.out ?_)
        | (with_reducible refine wpList_build_one rfl _ 33 25 rfl i0 z0 Try.underlying33 HI0.out HZ0.out (bcells X).toArray rfl HCS.out (by rw [HS0.out]; decide) (by rw [HS0.out]; decide) ?_)
        | (with_reducible refine wpList_append_known rfl _ _ 33 33 33 rfl rfl u3 (.slice (some ⟨wr.heap.size, 0, none⟩) 1 1) rfl rfl Hr5.out ?_))
      exact ⟨⟨k + 1, by omega, by rw [Int.natCast_add]; rfl, Ho5, HK5⟩, by simp only [RowKit.intOf]; omega⟩
    · obtain rfl : k = L.length := by omega
      have hO2 := hO.out
      rw [List.take_of_length_le (Nat.le_refl _)] at hO2
      have HO2 := Lib.hid hO2
      clear hO2
      go_wp2
      go_ret
      exact ⟨_, rfl, HO2.out, hK.out⟩

end Go.Proofs.Ytohichignjjleaa
