/-
  The walk of the statement BookMore: of more facts and secrets all follows that followed, rising, and of what follows nothing more.
-/
import Derived.Test.YtdedookpdnbdiaaGH
import Derived.Test.YtdedookpdnbdiaaGG
import Derived.Test.YtdedookpdnbdiaaGA
import Derived.Test.YtdedookpdnbdiaaGB

namespace Go.Proofs.Ytdedookpdnbdiaa
open Go.RowKit Go.Lib

theorem more_place (cut : Int) (m : Nat) (hm : m ≤ 5000) : ∃ q : Nat, q ≤ m ∧ wrap64 ((IntKind.u64.wrap cut).tmod ((m : Int) + 1)) = (q : Int) := by
  have h0 : 0 ≤ IntKind.u64.wrap cut := by rw [IntKind.wrap_u64]; omega
  generalize IntKind.u64.wrap cut = x at h0
  refine ⟨(x % ((m : Int) + 1)).toNat, ?_, ?_⟩
  · have := Int.emod_lt_of_pos x (show (0 : Int) < (m : Int) + 1 by omega)
    omega
  · rw [Int.tmod_eq_emod_of_nonneg h0]
    have h1 := Int.emod_lt_of_pos x (show (0 : Int) < (m : Int) + 1 by omega)
    have h2 := Int.emod_nonneg x (show ((m : Int) + 1) ≠ 0 by omega)
    unfold wrap64
    omega
theorem note_keeps (fs : List (List (List UInt8) × List (List UInt8))) (f g : List (List UInt8) × List (List UInt8)) (h : g ∈ fs) : g ∈ Bk.note fs f := by
  unfold Bk.note
  split
  · exact h
  · split
    · exact h
    · simp [h]
theorem fold_keeps (g : List (List UInt8) × List (List UInt8)) : ∀ (M fs : List (List (List UInt8) × List (List UInt8))), g ∈ fs → g ∈ M.foldl Bk.note fs
  | [], _, h => h
  | f :: M, fs, h => fold_keeps g M _ (note_keeps fs f g h)
theorem notes_part (L : List (List (List UInt8) × List (List UInt8))) (q : Nat) : ∀ f ∈ notes (L.take q), f ∈ notes L := fun f hf => by
  have e : notes L = (L.drop q).foldl Bk.note (notes (L.take q)) := by
    unfold notes
    rw [← List.foldl_append, List.take_append_drop]
  rw [e]
  exact fold_keeps f _ _ hf
theorem few_take {L : List (List (List UInt8) × List (List UInt8))} (h : Few L) (q : Nat) : Few (L.take q) :=
  ⟨by rw [List.length_take]; have := h.1; omega, fun f hf => h.2 f (List.mem_of_mem_take hf)⟩
/-- Of what follows nothing more follows. -/
theorem is_again {fs : List (List (List UInt8) × List (List UInt8))} {fr Y : List (List UInt8)} (h : Bk.Is fs fr Y) : Bk.Is fs Y Y :=
  ⟨h.rising, fun x => ⟨fun hx => .base x hx, fun hx => (h.mem x).2 (Bk.cl_more (fun _ hf => hf) (fun y hy => (h.mem y).1 hy) x hx)⟩⟩
theorem rising_at {M : List (List UInt8)} (h : Bk.Rising M) {i : Nat} (hi : i + 1 < M.length) : Bk.less M[i] M[i + 1] = true := List.pairwise_iff_getElem.1 h i (i + 1) (by omega) hi (by omega)
/-- Facts up to a place. -/
theorem FsW.part {w : World} {ad : Option Addr} {n c : Nat} {L : List (List (List UInt8) × List (List UInt8))} (h : FsW w (.slice ad n c) L) (q : Nat) (hq : q ≤ L.length) : FsW w (.slice (if c = 0 then ad else ad.map (·.add 0)) q c) (L.take q) := by
  obtain ⟨ad', g, o, c', e, h1⟩ := h
  cases e
  refine ⟨_, g, o, c, by rw [List.length_take, Nat.min_eq_left hq], fun i hi => ?_⟩
  have hi2 : i < q := by rw [List.length_take] at hi; omega
  obtain ⟨e1, e2, a, b, e3⟩ := h1 i (by omega)
  refine ⟨?_, e2, a, b, ?_⟩
  · rw [e1]
    split
    · rfl
    · rw [Option.map_some, Addr.add_lit, Nat.add_zero]
  · rw [List.getElem_take]
    exact e3
theorem run_slice_facts (w : World) (ad : Option Addr) (n c q : Nat) (hq : q ≤ c) : (Instr.sliceAt 22 (.slice ad n c) none (some (.int .i64 (q : Int))) none).run Try.prog w = .ok (.slice (if c = 0 then ad else ad.map (·.add 0)) q c) w := by
  have hu : Try.prog.underlying 22 = some (.slice 104) := Try.underlying22
  have h0 : (0 : Int) ≤ (q : Int) := by omega
  have hs : (Try.prog.info? 104).map (·.size) = some 2 := notedFactInfo
  obtain ⟨i, hi, _⟩ := Option.map_eq_some_iff.1 hs
  simp [Instr.sliceAt, Instr.slice, run_underlying hu, Instr.sliceBounds, Instr.sliceBound, asIntOf, sizeOf, typeInfo, hi, h0, hq, Result.andThen]
section
variable {P : Program} {ops : Array Oper} {rest : List Oper} {o : Oper} {a : Act} {w w' : World} {Q : Exit → Act → World → Prop}
theorem wpList_slice_known (hgd : o.guard = none) (t : TypeId) (x y : Operand) (ho : o.op = .slice t x none (some y) none) (v u : Value) (hx : a.eval x = v) (hy : a.eval y = u) {r : Value} (hr : (Instr.sliceAt t v none (some u) none).run P w = .ok r w') (hk : wpList P ops Q rest (a.put o.dst r) w') : wpList P ops Q (o :: rest) a w := by
  refine wpList_plain hgd fun K hK => ?_
  unfold Oper.wp execOp
  simp only [ho, hx, hy, Option.map_some, Option.map_none, Sem.run_bind, hr, Result.andThen_ok, Sem.run_pure]
  exact hK _ _ hk
theorem wpList_build_run (hgd : o.guard = none) (t : TypeId) (n : Nat) (ho : o.op = .buildSlice t n #[]) {r : Value} (hr : (Instr.buildSlice t n #[]).run P w = .ok r w') (hk : wpList P ops Q rest (a.put o.dst r) w') : wpList P ops Q (o :: rest) a w := by
  refine wpList_plain hgd fun K hK => ?_
  unfold Oper.wp execOp
  simp only [ho, List.map_toArray, List.map_nil, Sem.run_bind, hr, Result.andThen_ok, Sem.run_pure]
  exact hK _ _ hk
end
theorem build_none (w : World) : (Instr.buildSlice 23 0 #[]).run Try.prog w = .ok (.slice (some ⟨w.heap.size, 0, none⟩) 0 0) (w.alloc (.cells #[] 34)) := by kernel_rfl
theorem append_nilslice (w : World) (base : Nat) (v : Value) (M : List (List UInt8)) (hown : OwnH w base v M) (_hl : M.length < 1073741824) : (Builtin.append_ #[23, 23] 23 #[v, .slice none 0 0]).run Try.prog w = .ok v w := by
  obtain ⟨i, z, hi, hz, hzs, hs, hby⟩ := hash_info
  have hu : Try.prog.underlying 23 = some (.slice 34) := Try.underlying23
  obtain ⟨h32, hx, h | ⟨g, cap, cur, rfl, h1, h2, h3, h4, h5, h6⟩⟩ := hown
  · obtain ⟨rfl, h0⟩ := h
    simp [Builtin.append_, run_underlying hu, sizeOf, typeInfo, hi, hs, Builtin.lenOf, Builtin.firstCells, Result.andThen]
  · simp [Builtin.append_, run_underlying hu, sizeOf, typeInfo, hi, hs, Builtin.lenOf, Builtin.firstCells, h3, storeCells, Result.andThen]
/-- Digests of any slice put behind a row of one's own. -/
theorem append_any (w : World) (base : Nat) (v : Value) (M : List (List UInt8)) (hown : OwnH w base v M) (hbase : base ≤ w.heap.size) (u : Value) (X : List (List UInt8)) (hX : Hs w u X) (hW : Whole u) (hl : M.length + X.length < 1073741824) :
    ∃ v' w', (Builtin.append_ #[23, 23] 23 #[v, u]).run Try.prog w = .ok v' w' ∧ OwnH w' base v' (M ++ X) ∧ w.grownBy w' v.ownBlock := by
  obtain ⟨x32, ad, g, o, c, rfl, hcell⟩ := hX
  by_cases h0 : X = []
  · subst h0
    rw [List.append_nil]
    cases ad with
    | none =>
      obtain ⟨_, rfl⟩ := hW _ _ rfl
      exact ⟨v, w, append_nilslice w base v M hown (by omega), hown, ⟨rfl, rfl, rfl, Nat.le_refl _, fun _ _ _ => rfl⟩⟩
    | some a => exact append_none w base v M hown hbase a c (by omega)
  · have hl0 : 0 < X.length := List.length_pos_iff.2 h0
    obtain ⟨e, hg, _⟩ := hcell 0 hl0
    cases e
    exact append_hashes w base v M hown hbase g o c X x32 (fun i hi => (hcell i hi).2.2) hl

set_option maxRecDepth 100000 in
set_option maxHeartbeats 6400000 in
theorem bookmore_walk (L : List (List (List UInt8) × List (List UInt8))) (v : Value) (F : List (List UInt8)) (u : Value) (G : List (List UInt8)) (u2 : Value) (cut : Int) (w : World) (hL : FsW w v L) (hc : ∀ ad n c, v = .slice ad n c → n ≤ c) (hF : Hs w u F) (hFW : Whole u) (hG : Hs w u2 G) (hGW : Whole u2) : Calls Try.prog 3 #[v, u, u2, .int .i64 cut] w fun e w' => e = .returned (.bool true) ∧ Kept w.heap.size w.heap.size w w' := by
  obtain ⟨zp1, uad, ug, uo, uc, rfl, zp2⟩ := id hF
  clear zp1 zp2
  obtain ⟨zp1, gad, gg, go, gc, rfl, zp2⟩ := id hG
  clear zp1 zp2
  obtain ⟨zad, zg, zo, zc, rfl, zp2⟩ := id hL
  clear zp2
  have hLc := hc _ _ _ rfl
  have haw := awake_calls
  have HAW := Lib.hid haw
  have hfw : ∀ w', Kept w.heap.size w.heap.size w w' → Calls Try.prog 15 #[.slice zad L.length zc] w' (FewPost L w') := fun w' k => few_calls L _ w' (hL.kept k).fs
  have HFW := Lib.hid hfw
  have HL := Lib.hid hL
  have HF := Lib.hid hF
  have HG := Lib.hid hG
  have HFWH := Lib.hid hFW
  have HGWH := Lib.hid hGW
  have HLC := Lib.hid hLc
  clear haw hfw hL hF hG hFW hGW hc hLc
  go_enter Try.func3, Try.ntmps3
  go_upto_region 1 with fail
  refine wp_region_lit ?_
  refine @BigFrame.wpList_want _ _ _ _ _ _ _ ?hwa0 ?_
  case hwa0 => kernel_rfl
  intro K hK
  go_simp
  go_at_call 14; refine (HAW.out _).mono ?_; rintro e v1 ⟨rfl, k1⟩
  refine hK _ _ ?_
  clear hK K
  refine @BigFrame.wpList_want _ _ _ _ _ _ _ ?hwa1 ?_
  case hwa1 => kernel_rfl
  intro K hK
  go_simp
  refine hK _ _ ?_
  clear hK K
  refine @BigFrame.wpList_want _ _ _ _ _ _ _ ?hwa2 ?_
  case hwa2 => kernel_rfl
  intro K hK
  go_simp
  refine hK _ _ ?_
  clear hK K
  refine @BigFrame.wpList_want _ _ _ _ _ _ _ ?hwa3 ?_
  case hwa3 => kernel_rfl
  intro K hK
  go_simp
  refine hK _ _ ?_
  clear hK K
  refine @BigFrame.wpList_want _ _ _ _ _ _ _ ?hwa4 ?_
  case hwa4 => kernel_rfl
  intro K hK
  go_simp
  go_at_call 15; refine (HFW.out v1 k1).mono ?_; rintro e w1 ⟨b, rfl, hb, rfl⟩
  refine hK _ _ ?_
  clear hK K
  cases b with
  | false =>
    refine @BigFrame.wpList_want _ _ _ _ _ _ _ ?hwb00 ?_
    case hwb00 => kernel_rfl
    intro K hK
    go_simp
    refine hK _ _ ?_
    clear hK K
    refine @BigFrame.wpList_want _ _ _ _ _ _ _ ?hwb01 ?_
    case hwb01 => kernel_rfl
    intro K hK
    go_simp
    refine hK _ _ ?_
    clear hK K
    refine @BigFrame.wpList_want _ _ _ _ _ _ _ ?hwb02 ?_
    case hwb02 => kernel_rfl
    intro K hK
    go_simp
    refine hK _ _ ?_
    clear hK K
    refine @wpList_skip _ _ _ _ _ _ _ ?hwc00 ?_
    case hwc00 => kernel_rfl
    simp only [Act.put, List.setIfInBounds_toArray, List.set_cons_zero, List.set_cons_succ]
    refine @wpList_skip _ _ _ _ _ _ _ ?hwc01 ?_
    case hwc01 => kernel_rfl
    simp only [Act.put, List.setIfInBounds_toArray, List.set_cons_zero, List.set_cons_succ]
    refine @wpList_skip _ _ _ _ _ _ _ ?hwc02 ?_
    case hwc02 => kernel_rfl
    simp only [Act.put, List.setIfInBounds_toArray, List.set_cons_zero, List.set_cons_succ]
    refine @BigFrame.wpList_want _ _ _ _ _ _ _ ?hwd00 ?_
    case hwd00 => kernel_rfl
    intro K hK
    go_simp
    refine hK _ _ ?_
    clear hK K
    refine @BigFrame.wpList_want _ _ _ _ _ _ _ ?hwd01 ?_
    case hwd01 => kernel_rfl
    intro K hK
    go_simp
    refine hK _ _ ?_
    clear hK K
    refine @wpList_skip _ _ _ _ _ _ _ ?hwe00 ?_
    case hwe00 => kernel_rfl
    simp only [Act.put, List.setIfInBounds_toArray, List.set_cons_zero, List.set_cons_succ]
    refine @wpList_skip _ _ _ _ _ _ _ ?hwe01 ?_
    case hwe01 => kernel_rfl
    simp only [Act.put, List.setIfInBounds_toArray, List.set_cons_zero, List.set_cons_succ]
    refine @wpList_skip _ _ _ _ _ _ _ ?hwe02 ?_
    case hwe02 => kernel_rfl
    simp only [Act.put, List.setIfInBounds_toArray, List.set_cons_zero, List.set_cons_succ]
    refine @BigFrame.wpList_want _ _ _ _ _ _ _ ?hwf0 ?_
    case hwf0 => kernel_rfl
    intro K hK
    go_simp
    refine hK _ _ ?_
    clear hK K
    go_wp2_with (go_at_call 14; refine (HAW.out _).mono ?_; rintro e w3 ⟨rfl, k3⟩)
    go_ret
    exact ⟨rfl, k1.trans (k3.mono k1.size (fun i hi _ => by have := k1.size; omega))⟩
  | true =>
    have hfew := hb rfl
    clear hb
    refine @BigFrame.wpList_want _ _ _ _ _ _ _ ?hwg00 ?_
    case hwg00 => kernel_rfl
    intro K hK
    go_simp
    refine hK _ _ ?_
    clear hK K
    refine @BigFrame.wpList_want _ _ _ _ _ _ _ ?hwg01 ?_
    case hwg01 => kernel_rfl
    intro K hK
    go_simp
    refine hK _ _ ?_
    clear hK K
    refine @BigFrame.wpList_want _ _ _ _ _ _ _ ?hwg02 ?_
    case hwg02 => kernel_rfl
    intro K hK
    go_simp
    refine hK _ _ ?_
    clear hK K
    refine @BigFrame.wpList_want _ _ _ _ _ _ _ ?hwg03 ?_
    case hwg03 => kernel_rfl
    intro K hK
    go_simp
    refine hK _ _ ?_
    clear hK K
    refine @BigFrame.wpList_want _ _ _ _ _ _ _ ?hwg04 ?_
    case hwg04 => kernel_rfl
    intro K hK
    go_simp
    refine hK _ _ ?_
    clear hK K
    by_cases hz : 60 < F.length
    · have hd : decide ((60 : Int) < (F.length : Int)) = true := decide_eq_true (by omega)
      refine @BigFrame.wpList_want _ _ _ _ _ _ _ ?hwh00 ?_
      case hwh00 => kernel_rfl
      intro K hK
      go_simp
      refine hK _ _ ?_
      clear hK K
      refine @BigFrame.wpList_want _ _ _ _ _ _ _ ?hwh01 ?_
      case hwh01 => kernel_rfl
      intro K hK
      go_simp
      refine hK _ _ ?_
      clear hK K
      refine @BigFrame.wpList_want _ _ _ _ _ _ _ ?hwh02 ?_
      case hwh02 => kernel_rfl
      intro K hK
      go_simp
      refine hK _ _ ?_
      clear hK K
      refine @wpList_skip _ _ _ _ _ _ _ ?hwi00 ?_
      case hwi00 => kernel_rfl
      simp only [Act.put, List.setIfInBounds_toArray, List.set_cons_zero, List.set_cons_succ]
      refine @wpList_skip _ _ _ _ _ _ _ ?hwi01 ?_
      case hwi01 => kernel_rfl
      simp only [Act.put, List.setIfInBounds_toArray, List.set_cons_zero, List.set_cons_succ]
      refine @wpList_skip _ _ _ _ _ _ _ ?hwi02 ?_
      case hwi02 => kernel_rfl
      simp only [Act.put, List.setIfInBounds_toArray, List.set_cons_zero, List.set_cons_succ]
      refine @BigFrame.wpList_want _ _ _ _ _ _ _ ?hwj0 ?_
      case hwj0 => kernel_rfl
      intro K hK
      go_simp
      refine hK _ _ ?_
      clear hK K
      go_wp2_with (go_at_call 14; refine (HAW.out _).mono ?_; rintro e w3 ⟨rfl, k3⟩)
      go_ret
      exact ⟨rfl, k1.trans (k3.mono k1.size (fun i hi _ => by have := k1.size; omega))⟩
    have hd : decide ((60 : Int) < (F.length : Int)) = false := decide_eq_false (by omega)
    refine @BigFrame.wpList_want _ _ _ _ _ _ _ ?hwk00 ?_
    case hwk00 => kernel_rfl
    intro K hK
    go_simp
    refine hK _ _ ?_
    clear hK K
    refine @BigFrame.wpList_want _ _ _ _ _ _ _ ?hwk01 ?_
    case hwk01 => kernel_rfl
    intro K hK
    go_simp
    refine hK _ _ ?_
    clear hK K
    refine @BigFrame.wpList_want _ _ _ _ _ _ _ ?hwk02 ?_
    case hwk02 => kernel_rfl
    intro K hK
    go_simp
    refine hK _ _ ?_
    clear hK K
    refine @BigFrame.wpList_want _ _ _ _ _ _ _ ?hwk03 ?_
    case hwk03 => kernel_rfl
    intro K hK
    go_simp
    refine hK _ _ ?_
    clear hK K
    refine @BigFrame.wpList_want _ _ _ _ _ _ _ ?hwk04 ?_
    case hwk04 => kernel_rfl
    intro K hK
    go_simp
    refine hK _ _ ?_
    clear hK K
    by_cases hy : 60 < G.length
    · have hd2 : decide ((60 : Int) < (G.length : Int)) = true := decide_eq_true (by omega)
      refine @BigFrame.wpList_want _ _ _ _ _ _ _ ?hwl00 ?_
      case hwl00 => kernel_rfl
      intro K hK
      go_simp
      refine hK _ _ ?_
      clear hK K
      refine @BigFrame.wpList_want _ _ _ _ _ _ _ ?hwl01 ?_
      case hwl01 => kernel_rfl
      intro K hK
      go_simp
      refine hK _ _ ?_
      clear hK K
      go_wp2_with (go_at_call 14; refine (HAW.out _).mono ?_; rintro e w3 ⟨rfl, k3⟩)
      go_ret
      exact ⟨rfl, k1.trans (k3.mono k1.size (fun i hi _ => by have := k1.size; omega))⟩
    have hd2 : decide ((60 : Int) < (G.length : Int)) = false := decide_eq_false (by omega)
    refine @BigFrame.wpList_want _ _ _ _ _ _ _ ?hwm00 ?_
    case hwm00 => kernel_rfl
    intro K hK
    go_simp
    refine hK _ _ ?_
    clear hK K
    refine @BigFrame.wpList_want _ _ _ _ _ _ _ ?hwm01 ?_
    case hwm01 => kernel_rfl
    intro K hK
    go_simp
    refine hK _ _ ?_
    clear hK K
    have hL60 := hfew.1
    have hF60 : F.length ≤ 60 := by omega
    have hG60 : G.length ≤ 60 := by omega
    clear hz hy hd hd2
    obtain ⟨q, hq, hqe⟩ := more_place cut L.length (by omega)
    obtain ⟨hb1, hb2, hb3⟩ := few_notes hfew
    obtain ⟨hp1, hp2, hp3⟩ := few_notes (few_take hfew q)
    have hLk := HL.out.kept k1
    have hnp := noted_calls (L.take q) _ w1 (hLk.part q hq) (few_take hfew q)
    have hsl := run_slice_facts w1 zad L.length zc q (by have := HLC.out; omega)
    have hnt : ∀ w', Kept w1.heap.size w1.heap.size w1 w' → Calls Try.prog 16 #[.slice zad L.length zc] w' (NotedPost L w') := fun w' kk => noted_calls L _ w' (hLk.kept kk) hfew
    generalize (if zc = 0 then zad else zad.map (·.add 0)) = sad at hnp hsl
    have HNP := Lib.hid hnp
    have HNT := Lib.hid hnt
    have HSL := Lib.hid hsl
    have HB3 := Lib.hid hb3
    have HP3 := Lib.hid hp3
    have HK1 := Lib.hid k1
    clear hnp hnt hsl hb3 hp3 k1 hLk hfew HFW
    go_upto_region 4 with fail
    rw [hqe]
    clear hqe
    refine wp_region_lit ?_
    refine @BigFrame.wpList_want _ _ _ _ _ _ _ ?hwn0 ?_
    case hwn0 => kernel_rfl
    intro K hK
    go_simp
    refine hK _ _ ?_
    clear hK K
    refine @BigFrame.wpList_want _ _ _ _ _ _ _ ?hwn1 ?_
    case hwn1 => kernel_rfl
    intro K hK
    go_simp
    refine hK _ _ ?_
    clear hK K
    refine wpList_slice_known rfl 22 _ _ rfl _ _ rfl rfl HSL.out ?_
    simp only [Act.put, List.setIfInBounds_toArray, List.set_cons_zero, List.set_cons_succ]
    refine @BigFrame.wpList_want _ _ _ _ _ _ _ ?hwn2 ?_
    case hwn2 => kernel_rfl
    intro K hK
    go_simp
    go_at_call 16; refine HNP.out.mono ?_; rintro e w3 ⟨ba, ma, rfl, ⟨na, hna, hBa⟩, hOa, k3⟩
    refine hK _ _ ?_
    clear hK K
    have hnt3 := HNT.out w3 k3
    have HN3 := Lib.hid hnt3
    have HBA := Lib.hid hBa
    have hna6 : na < 1000000 := by have : (L.take q).length ≤ 60 := by rw [List.length_take]; omega
                                   omega
    clear hnt3 hBa hOa hna
    go_upto_region 5 with fail
    refine wp_region_lit ?_
    refine @BigFrame.wpList_want _ _ _ _ _ _ _ ?hwo0 ?_
    case hwo0 => kernel_rfl
    intro K hK
    go_simp
    refine hK _ _ ?_
    clear hK K
    refine @BigFrame.wpList_want _ _ _ _ _ _ _ ?hwo1 ?_
    case hwo1 => kernel_rfl
    intro K hK
    go_simp
    go_at_call 16; refine HN3.out.mono ?_; rintro e w4 ⟨bb, mb, rfl, ⟨nb, hnb, hBb⟩, hOb, k4⟩
    refine hK _ _ ?_
    clear hK K
    have hnb6 : nb < 1000000 := by omega
    have K4 : Kept w1.heap.size w1.heap.size w1 w4 := k3.trans (k4.mono k3.size (fun i hi _ => by have := k3.size; omega))
    have K04 := HK1.out.trans (K4.mono HK1.out.size (fun i hi _ => by have := HK1.out.size; omega))
    have hBa4 : ∃ S, Bok w4 w1.heap.size ba (notes (L.take q)) na (fun _ => none) S := Bok.low HBA.out k4
    have hfa : Calls Try.prog 17 #[.pointer (some ⟨ba, 0, none⟩), .slice uad F.length uc] w4 fun e w' => ∃ r M, e = .returned r ∧ Hs w' r M ∧ Bk.Is (notes (L.take q)) F M ∧ Kept w4.heap.size w4.heap.size w4 w' := by
      obtain ⟨S, hB⟩ := hBa4
      exact follows_book _ _ _ _ _ _ F _ _ hB (HF.out.kept K04) (by omega) hna6 (by omega) HP3.out
    have hfb : ∀ w' (y : Value) (Y : List (List UInt8)), Kept w4.heap.size w4.heap.size w4 w' → Hs w' y Y → Y.length ≤ 10000 → Calls Try.prog 17 #[.pointer (some ⟨bb, 0, none⟩), y] w' fun e w2 => ∃ r M, e = .returned r ∧ Hs w2 r M ∧ Bk.Is (notes L) Y M ∧ Kept w'.heap.size w'.heap.size w' w2 := fun w' y Y kk hy hyl => by
      obtain ⟨S, hB⟩ := Bok.low hBb kk
      exact follows_book _ _ _ _ _ _ Y _ _ hB hy (by omega) hnb6 (by omega) HB3.out
    have hkb : ∀ w' (y : Value) (Y : List (List UInt8)) (x : List UInt8), Kept w4.heap.size w4.heap.size w4 w' → Hs w' y Y → Y.length ≤ 10000 → x.length = 32 → Bk.Cl (notes L) Y x → Calls Try.prog 18 #[.pointer (some ⟨bb, 0, none⟩), .agg (bcells x).toArray, y] w' fun e w2 => e = .returned (.bool true) ∧ Kept w'.heap.size w'.heap.size w' w2 := fun w' y Y x kk hy hyl hx hcl => by
      obtain ⟨S, hB⟩ := Bok.low hBb kk
      refine (knows_of _ (notes L) Y x hx _ w' (fun w2 k2 => all_calls _ _ _ _ _ _ _ _ _ (hB.kept k2) (hy.kept k2) (by omega) hnb6 (by omega) HB3.out)).mono ?_
      rintro e w2 ⟨b, rfl, hb, k2⟩
      rw [hb.2 hcl]
      exact ⟨rfl, k2⟩
    have HFA := Lib.hid hfa
    have HFB := Lib.hid hfb
    have HKB := Lib.hid hkb
    have HK04 := Lib.hid K04
    clear hfa hfb hkb K04 K4 hBa4 hBb hOb k3 k4 HBA HN3 HNT HNP HSL hnb
    go_upto_region 6 with fail
    refine wp_region_lit ?_
    refine @BigFrame.wpList_want _ _ _ _ _ _ _ ?hwp0 ?_
    case hwp0 => kernel_rfl
    intro K hK
    go_simp
    refine hK _ _ ?_
    clear hK K
    refine @BigFrame.wpList_want _ _ _ _ _ _ _ ?hwp1 ?_
    case hwp1 => kernel_rfl
    intro K hK
    go_simp
    refine hK _ _ ?_
    clear hK K
    refine @BigFrame.wpList_want _ _ _ _ _ _ _ ?hwp2 ?_
    case hwp2 => kernel_rfl
    intro K hK
    go_simp
    go_at_call 17; refine HFA.out.mono ?_; rintro e w5 ⟨x, M, rfl, hM, hIM, k5⟩
    refine hK _ _ ?_
    clear hK K
    have K05 := HK04.out.trans (k5.mono HK04.out.size (fun i hi _ => by have := HK04.out.size; omega))
    have hMl := is_length hIM
    have hal : ∃ v1 w6, (Builtin.append_ #[23, 23] 23 #[.slice (some ⟨w5.heap.size, 0, none⟩) 0 0, .slice gad G.length gc]).run Try.prog (w5.alloc (.cells #[] 34)) = .ok v1 w6 ∧ OwnH w6 w5.heap.size v1 G ∧ Kept w5.heap.size w5.heap.size w5 w6 := by
      have hO : OwnH (w5.alloc (.cells #[] 34)) w5.heap.size (.slice (some ⟨w5.heap.size, 0, none⟩) 0 0) [] := ⟨(fun _ h => nomatch h), World.ownsRow_made w5 #[] 0 (Nat.le_refl _) (by decide) rfl⟩
      have ka : Kept w5.heap.size w5.heap.size w5 (w5.alloc (.cells #[] 34)) := (Kept.refl _ _ _).alloc (Nat.le_refl _) _
      obtain ⟨v1, w6, h1, h2, h3⟩ := append_any _ _ _ [] hO ka.size _ G ((HG.out.kept K05).kept ka) HGWH.out (by simp; omega)
      exact ⟨v1, w6, h1, h2, ka.grown h3 ka.size (fun k h => by cases h; exact Nat.le_refl _)⟩
    obtain ⟨v1, w6, hr1, ho1, k6⟩ := hal
    have K06 := K05.trans (k6.mono K05.size (fun i hi _ => by have := K05.size; omega))
    obtain ⟨y, w7, hr2, ho2, hg2⟩ := append_any _ _ _ G ho1 k6.size _ F (HF.out.kept K06) HFWH.out (by omega)
    have k7 : Kept w5.heap.size w5.heap.size w5 w7 := k6.grown hg2 k6.size (fun k h => (ho1.low k h).1)
    have HM := Lib.hid (hM.kept k7)
    have HY := Lib.hid ho2.hs
    have K47 := k5.trans (k7.mono k5.size (fun i hi _ => by have := k5.size; omega))
    have hfo := HFB.out w7 y (G ++ F) K47 ho2.hs (by rw [List.length_append]; omega)
    have hcl : ∀ z ∈ M, Bk.Cl (notes L) (G ++ F) z := fun z hz => Bk.cl_more (notes_part L q) (fun t ht => .base t (List.mem_append_right _ ht)) z ((hIM.mem z).1 hz)
    have HCL := Lib.hid hcl
    have HRM := Lib.hid hIM.rising
    have HK7 := Lib.hid K47
    have HR1 := Lib.hid hr1
    have HR2 := Lib.hid hr2
    have HFO := Lib.hid hfo
    have hMl2 : M.length ≤ 10000 := by omega
    clear hr1 hr2 hfo hcl hIM hM hMl K05 K06 ho1 ho2 hg2 k5 k6 k7 K47 HFA
    go_upto_region 7 with fail
    refine wp_region_lit ?_
    refine wpList_build_run rfl 23 0 rfl (build_none w5) ?_
    simp only [Act.put, List.setIfInBounds_toArray, List.set_cons_zero, List.set_cons_succ]
    refine @BigFrame.wpList_want _ _ _ _ _ _ _ ?hwq0 ?_
    case hwq0 => kernel_rfl
    intro K hK
    go_simp
    refine hK _ _ ?_
    clear hK K
    refine wpList_append_known rfl _ _ 23 23 23 rfl rfl (.slice (some ⟨w5.heap.size, 0, none⟩) 0 0) (.slice gad G.length gc) rfl rfl HR1.out ?_
    simp only [Act.put, List.setIfInBounds_toArray, List.set_cons_zero, List.set_cons_succ]
    refine @BigFrame.wpList_want _ _ _ _ _ _ _ ?hwq1 ?_
    case hwq1 => kernel_rfl
    intro K hK
    go_simp
    refine hK _ _ ?_
    clear hK K
    refine wpList_append_known rfl _ _ 23 23 23 rfl rfl v1 (.slice uad F.length uc) rfl rfl HR2.out ?_
    simp only [Act.put, List.setIfInBounds_toArray, List.set_cons_zero, List.set_cons_succ]
    go_upto_region 8 with fail
    refine wp_region_lit ?_
    refine @BigFrame.wpList_want _ _ _ _ _ _ _ ?hwr0 ?_
    case hwr0 => kernel_rfl
    intro K hK
    go_simp
    refine hK _ _ ?_
    clear hK K
    refine @BigFrame.wpList_want _ _ _ _ _ _ _ ?hwr1 ?_
    case hwr1 => kernel_rfl
    intro K hK
    go_simp
    refine hK _ _ ?_
    clear hK K
    refine @BigFrame.wpList_want _ _ _ _ _ _ _ ?hwr2 ?_
    case hwr2 => kernel_rfl
    intro K hK
    go_simp
    go_at_call 17; refine HFO.out.mono ?_; rintro e w8 ⟨z, Y, rfl, hY8, hIY, k8⟩
    refine hK _ _ ?_
    clear hK K
    have K48 := HK7.out.trans (k8.mono HK7.out.size (fun i hi _ => by have := HK7.out.size; omega))
    have hYl := is_length hIY
    have hYl2 : Y.length ≤ 10000 := by rw [List.length_append] at hYl; omega
    have HM8 := Lib.hid (HM.out.kept k8)
    have HA8 := Lib.hid (HY.out.kept k8)
    have hfz : ∀ w', Kept w8.heap.size w8.heap.size w8 w' → Calls Try.prog 17 #[.pointer (some ⟨bb, 0, none⟩), z] w' fun e w2 => ∃ r, e = .returned r ∧ Hs w2 r Y ∧ Kept w'.heap.size w'.heap.size w' w2 := fun w' kk =>
      (HFB.out w' z Y (K48.trans (kk.mono K48.size (fun i hi _ => by have := K48.size; omega))) (hY8.kept kk) hYl2).mono fun e w2 h => by
        obtain ⟨r, N, rfl, hN, hIN, k2⟩ := h
        have e1 : N = Y := hIN.one (is_again hIY)
        subst e1
        exact ⟨r, rfl, hN, k2⟩
    have hkz : ∀ w', Kept w8.heap.size w8.heap.size w8 w' → ∀ x ∈ M, Calls Try.prog 18 #[.pointer (some ⟨bb, 0, none⟩), .agg (bcells x).toArray, y] w' fun e w2 => e = .returned (.bool true) ∧ Kept w'.heap.size w'.heap.size w' w2 := fun w' kk x hx =>
      HKB.out w' y (G ++ F) x (K48.trans (kk.mono K48.size (fun i hi _ => by have := K48.size; omega))) (HA8.out.kept kk) (by rw [List.length_append]; omega) (HM8.out.1 x hx) (HCL.out x hx)
    have hcm : ∀ w' (i : Nat) (hi : i + 1 < M.length), Calls Try.prog 19 #[.agg (bcells M[i]).toArray, .agg (bcells M[i + 1]).toArray] w' fun e w2 => (∃ n : Int, e = .returned (.int .i64 n) ∧ decide (0 ≤ n) = false) ∧ Kept w'.heap.size w'.heap.size w' w2 := fun w' i hi => (cmp_calls M[i] M[i + 1] (HM8.out.1 _ (List.getElem_mem _)) (HM8.out.1 _ (List.getElem_mem _)) w').mono fun e w2 h => by
      obtain ⟨rfl, k2⟩ := h
      have hl : compareBytes M[i] M[i + 1] < 0 := of_decide_eq_true (rising_at HRM.out hi)
      exact ⟨⟨_, rfl, decide_eq_false (by omega)⟩, k2⟩
    obtain ⟨m32, xad, xg, xo, xc, rfl, mcell⟩ := HM8.out
    obtain ⟨y32, yad, yg, yo, yc, rfl, ycell⟩ := id hY8
    have hmc : ∀ w', Kept w8.heap.size w8.heap.size w8 w' → ∀ i (hi : i < M.length), xad = some ⟨xg, xo, none⟩ ∧ M[i].length = 32 ∧ w'.rangeAt xg (xo + i * 32) (bcells M[i]) := fun w' kk i hi => by
      obtain ⟨a1, a2, a3⟩ := mcell i hi
      exact ⟨a1, m32 _ (List.getElem_mem hi), rangeAt_kept kk a3 a2 (Nat.ne_of_lt a2)⟩
    have K08 := HK04.out.trans (K48.mono HK04.out.size (fun i hi _ => by have := HK04.out.size; omega))
    have hinfo : (Try.prog.info? 34).map (·.size) = some 32 := by kernel_rfl
    have HINFO := Lib.hid hinfo
    have HFZ := Lib.hid hfz
    have HKZ := Lib.hid hkz
    have HCM := Lib.hid hcm
    have HMC := Lib.hid hmc
    have HY8 := Lib.hid hY8
    have HK08 := Lib.hid K08
    clear hfz hkz hcm hmc m32 y32 mcell ycell K48 K08 hIY hY8 hYl hinfo HM8 HA8 HM HY HCL HFO HR1 HR2 HFB HKB HK7 HK04 HK1 HAW HL HF HG HFWH HGWH HLC HRM
    have gd := macGuard25
    go_wp2_with fail
    go_loopw [19] (fun i w9 => ∃ k : Nat, k ≤ M.length ∧ i = .int .i64 (k : Int) ∧ Hid (Kept w8.heap.size w8.heap.size w8 w9)) (fun i _ => M.length - (RowKit.intOf i).toNat)
    case atStart => exact ⟨0, by omega, rfl, Lib.hid (Kept.refl _ _ _)⟩
    case round =>
      obtain ⟨k, hk, rfl, hK⟩ := hrel
      by_cases hlt : k < M.length
      · obtain ⟨rfl, hx32, hr⟩ := HMC.out wr hK.out k hlt
        have hln : (k : Int) < (M.length : Int) := by omega
        have hk0 : ¬ (k : Int) < 0 := by omega
        have hxl : (Try.prog.info? 34).map (·.size) = some (bcells M[k]).length := by rw [HINFO.out, bcells_length, hx32]
        have hrd : ∀ w', Kept w8.heap.size w8.heap.size w8 w' → w'.rangeAt xg (xo + k * 32) (bcells M[k]) := fun w' kk => (HMC.out w' kk k hlt).2.2
        have hkk : ∀ w', Kept w8.heap.size w8.heap.size w8 w' → Calls Try.prog 18 #[.pointer (some ⟨bb, 0, none⟩), .agg (bcells M[k]).toArray, y] w' fun e w2 => e = .returned (.bool true) ∧ Kept w'.heap.size w'.heap.size w' w2 := fun w' kk => HKZ.out w' kk M[k] (List.getElem_mem hlt)
        have hld : ∀ w', Kept w8.heap.size w8.heap.size w8 w' → (loadVar 34 ⟨xg, xo + k * 32, none⟩).run Try.prog w' = .ok (.agg (bcells M[k]).toArray) w' := fun w' kk => run_loadVar_mid w' xg (xo + k * 32) 34 (bcells M[k]) _ (hrd w' kk) Try.underlying34 rfl hxl
        by_cases hz : k = 0
        · have HZ := Lib.hid hz
          clear hz
          generalize (bcells M[k]).toArray = cx at hkk hld
          have HKK := Lib.hid hkk
          have HLD := Lib.hid hld
          clear hkk hld hrd hxl hr hx32
          go_upto_region 12 with fail
          have KD : Kept w8.heap.size w8.heap.size w8 wr.drew := hK.out.drew
          refine wp_region_noPanic ?_
          refine wp_region_held_drew (S := fun w' => Kept w8.heap.size w8.heap.size w8 w') (by kernel_rfl) (KD) (fun hH => ?_)
          refine wpAnyH_take_at (i := 0) 79 (.pointer (some ⟨bb, 0, none⟩)) rfl rfl (by kernel_rfl) (by kernel_rfl) (by kernel_rfl) (fun _ _ _ h => h) (.inl ⟨by kernel_rfl, fun w9 _ => by go_simp⟩) hH ?_
          simp only [List.setIfInBounds_toArray, List.set_cons_zero, List.set_cons_succ]
          refine wpAnyH_take_at (i := 1) 80 (.slice (some ⟨xg, xo, none⟩) M.length xc) rfl rfl (by kernel_rfl) (by kernel_rfl) (by kernel_rfl) (fun _ _ _ h => h) (.inl ⟨by kernel_rfl, fun w9 _ => by go_simp⟩) hH ?_
          simp only [List.setIfInBounds_toArray, List.set_cons_zero, List.set_cons_succ]
          refine wpAnyH_take_at (i := 2) 81 (.int .i64 (k : Int)) rfl rfl (by kernel_rfl) (by kernel_rfl) (by kernel_rfl) (fun _ _ _ h => h) (.inl ⟨by kernel_rfl, fun w9 _ => by go_simp⟩) hH ?_
          simp only [List.setIfInBounds_toArray, List.set_cons_zero, List.set_cons_succ]
          refine wpAnyH_take_at (i := 3) 82 (.pointer (some ⟨xg, xo + k * 32, none⟩)) rfl rfl (by kernel_rfl) (by kernel_rfl) (by kernel_rfl) (fun _ _ _ h => h) (.inl ⟨by kernel_rfl, fun w9 _ => by go_simp⟩) hH ?_
          simp only [List.setIfInBounds_toArray, List.set_cons_zero, List.set_cons_succ]
          refine wpAnyH_take_at (i := 4) 83 (.agg cx) rfl rfl (by kernel_rfl) (by kernel_rfl) (by kernel_rfl) (fun _ _ _ h => h) (yieldsIf_load_known (by kernel_rfl) 34 _ rfl (xg) (xo + k * 32) rfl (.agg cx) (fun w' hw' => HLD.out w' hw')) hH ?_
          simp only [List.setIfInBounds_toArray, List.set_cons_zero, List.set_cons_succ]
          refine wpAnyH_take_at (i := 5) 84 (y) rfl rfl (by kernel_rfl) (by kernel_rfl) (by kernel_rfl) (fun _ _ _ h => h) (.inl ⟨by kernel_rfl, fun w9 _ => by go_simp⟩) hH ?_
          simp only [List.setIfInBounds_toArray, List.set_cons_zero, List.set_cons_succ]
          refine wpAnyH_ready (rs := [6]) (by kernel_rfl) (by simp) ?_
          refine AllReadyH.cons rfl (fun K hK => ?_) AllReadyH.nil
          rw [if_pos (by rfl)]
          go_simp
          go_wp2_with (go_at_call 18; refine (HKK.out _ KD).mono ?_; rintro e v6 ⟨rfl, kv6⟩)
          have Kv6 : Kept w8.heap.size w8.heap.size w8 v6 := KD.trans (kv6.mono KD.size (fun i hi _ => Nat.ne_of_lt (Nat.lt_of_lt_of_le hi KD.size)))
          refine hK.out _ _ (Kv6) (fun hH => ?_)
          clear hK K
          refine wpAnyH_take_at (i := 7) 86 (.bool false) rfl rfl (by kernel_rfl) (by kernel_rfl) (by kernel_rfl) (fun _ _ _ h => h) (.inl ⟨by kernel_rfl, fun w9 _ => by go_simp⟩) hH ?_
          simp only [List.setIfInBounds_toArray, List.set_cons_zero, List.set_cons_succ]
          refine wpAnyH_take_at (i := 8) 87 (.bool false) rfl rfl (by kernel_rfl) (by kernel_rfl) (by kernel_rfl) (fun _ _ _ h => h) (.inl ⟨by kernel_rfl, fun w9 _ => by go_simp⟩) hH ?_
          simp only [List.setIfInBounds_toArray, List.set_cons_zero, List.set_cons_succ]
          refine wpAnyH_take_at (i := 9) 88 (.int .i64 (k : Int)) rfl rfl (by kernel_rfl) (by kernel_rfl) (by kernel_rfl) (fun _ _ _ h => h) (.inl ⟨by kernel_rfl, fun w9 _ => by go_simp⟩) hH ?_
          simp only [List.setIfInBounds_toArray, List.set_cons_zero, List.set_cons_succ]
          refine wpAnyH_take_at (i := 10) 89 (.bool false) rfl rfl (by kernel_rfl) (by kernel_rfl) (by kernel_rfl) (fun _ _ _ h => h) (.inl ⟨by kernel_rfl, fun w9 _ => by have hz := HZ.out; go_simp⟩) hH ?_
          simp only [List.setIfInBounds_toArray, List.set_cons_zero, List.set_cons_succ]
          refine wpAnyH_take_at (i := 11) 90 (.bool false) rfl rfl (by kernel_rfl) (by kernel_rfl) (by kernel_rfl) (fun _ _ _ h => h) (.inl ⟨by kernel_rfl, fun w9 _ => by go_simp⟩) hH ?_
          simp only [List.setIfInBounds_toArray, List.set_cons_zero, List.set_cons_succ]
          refine wpAnyH_take_at (i := 12) 91 (undef) rfl rfl (by kernel_rfl) (by kernel_rfl) (by kernel_rfl) (fun _ _ _ h => h) (.inr ⟨by kernel_rfl, rfl⟩) hH ?_
          simp only [List.setIfInBounds_toArray, List.set_cons_zero, List.set_cons_succ]
          refine wpAnyH_take_at (i := 13) 92 (undef) rfl rfl (by kernel_rfl) (by kernel_rfl) (by kernel_rfl) (fun _ _ _ h => h) (.inr ⟨by kernel_rfl, rfl⟩) hH ?_
          simp only [List.setIfInBounds_toArray, List.set_cons_zero, List.set_cons_succ]
          refine wpAnyH_take_at (i := 14) 93 (undef) rfl rfl (by kernel_rfl) (by kernel_rfl) (by kernel_rfl) (fun _ _ _ h => h) (.inr ⟨by kernel_rfl, rfl⟩) hH ?_
          simp only [List.setIfInBounds_toArray, List.set_cons_zero, List.set_cons_succ]
          refine wpAnyH_take_at (i := 15) 94 (undef) rfl rfl (by kernel_rfl) (by kernel_rfl) (by kernel_rfl) (fun _ _ _ h => h) (.inr ⟨by kernel_rfl, rfl⟩) hH ?_
          simp only [List.setIfInBounds_toArray, List.set_cons_zero, List.set_cons_succ]
          refine wpAnyH_take_at (i := 16) 95 (undef) rfl rfl (by kernel_rfl) (by kernel_rfl) (by kernel_rfl) (fun _ _ _ h => h) (.inr ⟨by kernel_rfl, rfl⟩) hH ?_
          simp only [List.setIfInBounds_toArray, List.set_cons_zero, List.set_cons_succ]
          refine wpAnyH_take_at (i := 17) 96 (undef) rfl rfl (by kernel_rfl) (by kernel_rfl) (by kernel_rfl) (fun _ _ _ h => h) (.inr ⟨by kernel_rfl, rfl⟩) hH ?_
          simp only [List.setIfInBounds_toArray, List.set_cons_zero, List.set_cons_succ]
          refine wpAnyH_take_at (i := 18) 97 (undef) rfl rfl (by kernel_rfl) (by kernel_rfl) (by kernel_rfl) (fun _ _ _ h => h) (.inr ⟨by kernel_rfl, rfl⟩) hH ?_
          simp only [List.setIfInBounds_toArray, List.set_cons_zero, List.set_cons_succ]
          refine wpAnyH_take_at (i := 19) 98 (undef) rfl rfl (by kernel_rfl) (by kernel_rfl) (by kernel_rfl) (fun _ _ _ h => h) (.inr ⟨by kernel_rfl, rfl⟩) hH ?_
          simp only [List.setIfInBounds_toArray, List.set_cons_zero, List.set_cons_succ]
          refine wpAnyH_take_at (i := 20) 99 (undef) rfl rfl (by kernel_rfl) (by kernel_rfl) (by kernel_rfl) (fun _ _ _ h => h) (.inr ⟨by kernel_rfl, rfl⟩) hH ?_
          simp only [List.setIfInBounds_toArray, List.set_cons_zero, List.set_cons_succ]
          refine wpAnyH_take_at (i := 21) 100 (undef) rfl rfl (by kernel_rfl) (by kernel_rfl) (by kernel_rfl) (fun _ _ _ h => h) (.inr ⟨by kernel_rfl, rfl⟩) hH ?_
          simp only [List.setIfInBounds_toArray, List.set_cons_zero, List.set_cons_succ]
          refine wpAnyH_take_at (i := 22) 101 (undef) rfl rfl (by kernel_rfl) (by kernel_rfl) (by kernel_rfl) (fun _ _ _ h => h) (.inr ⟨by kernel_rfl, rfl⟩) hH ?_
          simp only [List.setIfInBounds_toArray, List.set_cons_zero, List.set_cons_succ]
          refine wpAnyH_take_at (i := 23) 102 (.bool false) rfl rfl (by kernel_rfl) (by kernel_rfl) (by kernel_rfl) (fun _ _ _ h => h) (.inl ⟨by kernel_rfl, fun w9 _ => by go_simp⟩) hH ?_
          simp only [List.setIfInBounds_toArray, List.set_cons_zero, List.set_cons_succ]
          refine wpAnyH_take_at (i := 24) 103 (.bool false) rfl rfl (by kernel_rfl) (by kernel_rfl) (by kernel_rfl) (fun _ _ _ h => h) (.inl ⟨by kernel_rfl, fun w9 _ => by go_simp⟩) hH ?_
          simp only [List.setIfInBounds_toArray, List.set_cons_zero, List.set_cons_succ]
          refine wpAnyH_done (by kernel_rfl) ?_ _
          refine NoPanic.normal ?_
          go_wp2
          exact ⟨⟨k + 1, by omega, by rw [Int.natCast_add]; rfl, Lib.hid Kv6⟩, by simp only [RowKit.intOf]; omega⟩
        · obtain ⟨j, hj⟩ : ∃ j, k = j + 1 := ⟨k - 1, by omega⟩
          have hpos : 0 < k := by omega
          have HZ := Lib.hid hpos
          clear hz hpos
          have hjl : j < M.length := by omega
          have hcm : ∀ w', Calls Try.prog 19 #[.agg (bcells M[j]).toArray, .agg (bcells M[k]).toArray] w' fun e w2 => (∃ n : Int, e = .returned (.int .i64 n) ∧ decide (0 ≤ n) = false) ∧ Kept w'.heap.size w'.heap.size w' w2 := fun w' => by
            have := HCM.out w' j (by omega)
            subst hj
            exact this
          obtain ⟨hq1, hy32, hq3⟩ := HMC.out wr hK.out j hjl
          have hyl : (Try.prog.info? 34).map (·.size) = some (bcells M[j]).length := by rw [HINFO.out, bcells_length, hy32]
          have hlj : ∀ w', Kept w8.heap.size w8.heap.size w8 w' → (loadVar 34 ⟨xg, xo + j * 32, none⟩).run Try.prog w' = .ok (.agg (bcells M[j]).toArray) w' := fun w' kk => run_loadVar_mid w' xg (xo + j * 32) 34 (bcells M[j]) _ (HMC.out w' kk j hjl).2.2 Try.underlying34 rfl hyl
          generalize (bcells M[k]).toArray = cx at hkk hld hcm
          generalize (bcells M[j]).toArray = cp at hlj hcm
          have HKK := Lib.hid hkk
          have HLD := Lib.hid hld
          have HLJ := Lib.hid hlj
          have HCMP := Lib.hid hcm
          have hsub : (k : Int) - 1 = (j : Int) := by omega
          have hjn : (j : Int) < (M.length : Int) := by omega
          have hj0 : ¬ (j : Int) < 0 := by omega
          have hwj : IntKind.i64.wrap (j : Int) = (j : Int) := by
            rw [IntKind.wrap_i64]
            omega
          have HJJ := Lib.hid (show (((k : Int) - 1 = (j : Int)) ∧ ((j : Int) < (M.length : Int)) ∧ (¬ (j : Int) < 0) ∧ IntKind.i64.wrap (j : Int) = (j : Int)) from ⟨hsub, hjn, hj0, hwj⟩)
          clear hkk hld hrd hxl hr hx32 hcm hlj hyl hy32 hq1 hq3 hsub hjn hj0 hwj hj hjl
          go_upto_region 12 with fail
          have KD : Kept w8.heap.size w8.heap.size w8 wr.drew := hK.out.drew
          refine wp_region_noPanic ?_
          refine wp_region_held_drew (S := fun w' => Kept w8.heap.size w8.heap.size w8 w') (by kernel_rfl) (KD) (fun hH => ?_)
          refine wpAnyH_take_at (i := 0) 79 (.pointer (some ⟨bb, 0, none⟩)) rfl rfl (by kernel_rfl) (by kernel_rfl) (by kernel_rfl) (fun _ _ _ h => h) (.inl ⟨by kernel_rfl, fun w9 _ => by go_simp⟩) hH ?_
          simp only [List.setIfInBounds_toArray, List.set_cons_zero, List.set_cons_succ]
          refine wpAnyH_take_at (i := 1) 80 (.slice (some ⟨xg, xo, none⟩) M.length xc) rfl rfl (by kernel_rfl) (by kernel_rfl) (by kernel_rfl) (fun _ _ _ h => h) (.inl ⟨by kernel_rfl, fun w9 _ => by go_simp⟩) hH ?_
          simp only [List.setIfInBounds_toArray, List.set_cons_zero, List.set_cons_succ]
          refine wpAnyH_take_at (i := 2) 81 (.int .i64 (k : Int)) rfl rfl (by kernel_rfl) (by kernel_rfl) (by kernel_rfl) (fun _ _ _ h => h) (.inl ⟨by kernel_rfl, fun w9 _ => by go_simp⟩) hH ?_
          simp only [List.setIfInBounds_toArray, List.set_cons_zero, List.set_cons_succ]
          refine wpAnyH_take_at (i := 3) 82 (.pointer (some ⟨xg, xo + k * 32, none⟩)) rfl rfl (by kernel_rfl) (by kernel_rfl) (by kernel_rfl) (fun _ _ _ h => h) (.inl ⟨by kernel_rfl, fun w9 _ => by go_simp⟩) hH ?_
          simp only [List.setIfInBounds_toArray, List.set_cons_zero, List.set_cons_succ]
          refine wpAnyH_take_at (i := 4) 83 (.agg cx) rfl rfl (by kernel_rfl) (by kernel_rfl) (by kernel_rfl) (fun _ _ _ h => h) (yieldsIf_load_known (by kernel_rfl) 34 _ rfl (xg) (xo + k * 32) rfl (.agg cx) (fun w' hw' => HLD.out w' hw')) hH ?_
          simp only [List.setIfInBounds_toArray, List.set_cons_zero, List.set_cons_succ]
          refine wpAnyH_take_at (i := 5) 84 (y) rfl rfl (by kernel_rfl) (by kernel_rfl) (by kernel_rfl) (fun _ _ _ h => h) (.inl ⟨by kernel_rfl, fun w9 _ => by go_simp⟩) hH ?_
          simp only [List.setIfInBounds_toArray, List.set_cons_zero, List.set_cons_succ]
          refine wpAnyH_ready (rs := [6]) (by kernel_rfl) (by simp) ?_
          refine AllReadyH.cons rfl (fun K hK => ?_) AllReadyH.nil
          rw [if_pos (by rfl)]
          go_simp
          go_wp2_with (go_at_call 18; refine (HKK.out _ KD).mono ?_; rintro e v6 ⟨rfl, kv6⟩)
          have Kv6 : Kept w8.heap.size w8.heap.size w8 v6 := KD.trans (kv6.mono KD.size (fun i hi _ => Nat.ne_of_lt (Nat.lt_of_lt_of_le hi KD.size)))
          refine hK.out _ _ (Kv6) (fun hH => ?_)
          clear hK K
          refine wpAnyH_take_at (i := 7) 86 (.bool false) rfl rfl (by kernel_rfl) (by kernel_rfl) (by kernel_rfl) (fun _ _ _ h => h) (.inl ⟨by kernel_rfl, fun w9 _ => by go_simp⟩) hH ?_
          simp only [List.setIfInBounds_toArray, List.set_cons_zero, List.set_cons_succ]
          refine wpAnyH_take_at (i := 8) 87 (.bool false) rfl rfl (by kernel_rfl) (by kernel_rfl) (by kernel_rfl) (fun _ _ _ h => h) (.inl ⟨by kernel_rfl, fun w9 _ => by go_simp⟩) hH ?_
          simp only [List.setIfInBounds_toArray, List.set_cons_zero, List.set_cons_succ]
          refine wpAnyH_take_at (i := 9) 88 (.int .i64 (k : Int)) rfl rfl (by kernel_rfl) (by kernel_rfl) (by kernel_rfl) (fun _ _ _ h => h) (.inl ⟨by kernel_rfl, fun w9 _ => by go_simp⟩) hH ?_
          simp only [List.setIfInBounds_toArray, List.set_cons_zero, List.set_cons_succ]
          refine wpAnyH_take_at (i := 10) 89 (.bool true) rfl rfl (by kernel_rfl) (by kernel_rfl) (by kernel_rfl) (fun _ _ _ h => h) (.inl ⟨by kernel_rfl, fun w9 _ => by have hz := HZ.out; go_simp⟩) hH ?_
          simp only [List.setIfInBounds_toArray, List.set_cons_zero, List.set_cons_succ]
          refine wpAnyH_take_at (i := 11) 90 (.bool true) rfl rfl (by kernel_rfl) (by kernel_rfl) (by kernel_rfl) (fun _ _ _ h => h) (.inl ⟨by kernel_rfl, fun w9 _ => by go_simp⟩) hH ?_
          simp only [List.setIfInBounds_toArray, List.set_cons_zero, List.set_cons_succ]
          refine wpAnyH_take_at (i := 12) 91 (.slice (some ⟨xg, xo, none⟩) M.length xc) rfl rfl (by kernel_rfl) (by kernel_rfl) (by kernel_rfl) (fun _ _ _ h => h) (.inl ⟨by kernel_rfl, fun w9 _ => by go_simp⟩) hH ?_
          simp only [List.setIfInBounds_toArray, List.set_cons_zero, List.set_cons_succ]
          refine wpAnyH_take_at (i := 13) 92 (.int .i64 (k : Int)) rfl rfl (by kernel_rfl) (by kernel_rfl) (by kernel_rfl) (fun _ _ _ h => h) (.inl ⟨by kernel_rfl, fun w9 _ => by go_simp⟩) hH ?_
          simp only [List.setIfInBounds_toArray, List.set_cons_zero, List.set_cons_succ]
          refine wpAnyH_take_at (i := 14) 93 (.int .i64 (j : Int)) rfl rfl (by kernel_rfl) (by kernel_rfl) (by kernel_rfl) (fun _ _ _ h => h) (.inl ⟨by kernel_rfl, fun w9 _ => by obtain ⟨hsub, hjn, hj0, hwj⟩ := HJJ.out; go_simp⟩) hH ?_
          simp only [List.setIfInBounds_toArray, List.set_cons_zero, List.set_cons_succ]
          refine wpAnyH_take_at (i := 15) 94 (.pointer (some ⟨xg, xo + j * 32, none⟩)) rfl rfl (by kernel_rfl) (by kernel_rfl) (by kernel_rfl) (fun _ _ _ h => h) (.inl ⟨by kernel_rfl, fun w9 _ => by obtain ⟨hsub, hjn, hj0, hwj⟩ := HJJ.out; go_simp⟩) hH ?_
          simp only [List.setIfInBounds_toArray, List.set_cons_zero, List.set_cons_succ]
          refine wpAnyH_take_at (i := 16) 95 (.agg cp) rfl rfl (by kernel_rfl) (by kernel_rfl) (by kernel_rfl) (fun _ _ _ h => h) (yieldsIf_load_known (by kernel_rfl) 34 _ rfl (xg) (xo + j * 32) rfl (.agg cp) (fun w' hw' => HLJ.out w' hw')) hH ?_
          simp only [List.setIfInBounds_toArray, List.set_cons_zero, List.set_cons_succ]
          refine wpAnyH_take_at (i := 17) 96 (.slice (some ⟨xg, xo, none⟩) M.length xc) rfl rfl (by kernel_rfl) (by kernel_rfl) (by kernel_rfl) (fun _ _ _ h => h) (.inl ⟨by kernel_rfl, fun w9 _ => by go_simp⟩) hH ?_
          simp only [List.setIfInBounds_toArray, List.set_cons_zero, List.set_cons_succ]
          refine wpAnyH_take_at (i := 18) 97 (.int .i64 (k : Int)) rfl rfl (by kernel_rfl) (by kernel_rfl) (by kernel_rfl) (fun _ _ _ h => h) (.inl ⟨by kernel_rfl, fun w9 _ => by go_simp⟩) hH ?_
          simp only [List.setIfInBounds_toArray, List.set_cons_zero, List.set_cons_succ]
          refine wpAnyH_take_at (i := 19) 98 (.pointer (some ⟨xg, xo + k * 32, none⟩)) rfl rfl (by kernel_rfl) (by kernel_rfl) (by kernel_rfl) (fun _ _ _ h => h) (.inl ⟨by kernel_rfl, fun w9 _ => by go_simp⟩) hH ?_
          simp only [List.setIfInBounds_toArray, List.set_cons_zero, List.set_cons_succ]
          refine wpAnyH_take_at (i := 20) 99 (.agg cx) rfl rfl (by kernel_rfl) (by kernel_rfl) (by kernel_rfl) (fun _ _ _ h => h) (yieldsIf_load_known (by kernel_rfl) 34 _ rfl (xg) (xo + k * 32) rfl (.agg cx) (fun w' hw' => HLD.out w' hw')) hH ?_
          simp only [List.setIfInBounds_toArray, List.set_cons_zero, List.set_cons_succ]
          refine wpAnyH_ready (rs := [21]) (by kernel_rfl) (by simp) ?_
          refine AllReadyH.cons rfl (fun K hK => ?_) AllReadyH.nil
          rw [if_pos (by rfl)]
          go_simp
          go_wp2_with (go_at_call 19; refine (HCMP.out _).mono ?_; rintro e v7 ⟨⟨n, rfl, hn⟩, kv7⟩)
          have Kv7 : Kept w8.heap.size w8.heap.size w8 v7 := Kv6.trans (kv7.mono Kv6.size (fun i hi _ => Nat.ne_of_lt (Nat.lt_of_lt_of_le hi Kv6.size)))
          refine hK.out _ _ (Kv7) (fun hH => ?_)
          clear hK K
          refine wpAnyH_take_at (i := 22) 101 (.bool false) rfl rfl (by kernel_rfl) (by kernel_rfl) (by kernel_rfl) (fun _ _ _ h => h) (.inl ⟨by kernel_rfl, fun w9 _ => by go_simp⟩) hH ?_
          simp only [List.setIfInBounds_toArray, List.set_cons_zero, List.set_cons_succ]
          refine wpAnyH_take_at (i := 23) 102 (.bool false) rfl rfl (by kernel_rfl) (by kernel_rfl) (by kernel_rfl) (fun _ _ _ h => h) (.inl ⟨by kernel_rfl, fun w9 _ => by go_simp⟩) hH ?_
          simp only [List.setIfInBounds_toArray, List.set_cons_zero, List.set_cons_succ]
          refine wpAnyH_take_at (i := 24) 103 (.bool false) rfl rfl (by kernel_rfl) (by kernel_rfl) (by kernel_rfl) (fun _ _ _ h => h) (.inl ⟨by kernel_rfl, fun w9 _ => by go_simp⟩) hH ?_
          simp only [List.setIfInBounds_toArray, List.set_cons_zero, List.set_cons_succ]
          refine wpAnyH_done (by kernel_rfl) ?_ _
          refine NoPanic.normal ?_
          go_wp2
          exact ⟨⟨k + 1, by omega, by rw [Int.natCast_add]; rfl, Lib.hid Kv7⟩, by simp only [RowKit.intOf]; omega⟩
      · obtain rfl : k = M.length := by omega
        have hd3 : decide ((M.length : Int) < (M.length : Int)) = false := decide_eq_false (by omega)
        have hfz := HFZ.out wr hK.out
        have HFZ2 := Lib.hid hfz
        clear hfz
        go_upto_region 14 with fail
        clear hd3
        refine wp_region_lit ?_
        refine @BigFrame.wpList_want _ _ _ _ _ _ _ ?hws0 ?_
        case hws0 => kernel_rfl
        intro K hK
        go_simp
        refine hK _ _ ?_
        clear hK K
        refine @BigFrame.wpList_want _ _ _ _ _ _ _ ?hws1 ?_
        case hws1 => kernel_rfl
        intro K hK
        go_simp
        refine hK _ _ ?_
        clear hK K
        refine @BigFrame.wpList_want _ _ _ _ _ _ _ ?hws2 ?_
        case hws2 => kernel_rfl
        intro K hK
        go_simp
        go_at_call 17; refine HFZ2.out.mono ?_; rintro e w9 ⟨r, rfl, hR9, k9⟩
        refine hK _ _ ?_
        clear hK K
        have K89 := hK.out.trans (k9.mono hK.out.size (fun i hi _ => by have := hK.out.size; omega))
        have hY9 := HY8.out.kept K89
        obtain ⟨r32, rad, rg, ro, rc, rfl, rcell⟩ := hR9
        obtain ⟨z32, zad2, zg2, zo2, zc2, zeq, zcell⟩ := hY9
        cases zeq
        have hrc : ∀ w', Kept w9.heap.size w9.heap.size w9 w' → ∀ i (hi : i < Y.length), rad = some ⟨rg, ro, none⟩ ∧ yad = some ⟨zg2, zo2, none⟩ ∧ (loadVar 34 ⟨rg, ro + i * 32, none⟩).run Try.prog w' = .ok (.agg (bcells Y[i]).toArray) w' ∧ (loadVar 34 ⟨zg2, zo2 + i * 32, none⟩).run Try.prog w' = .ok (.agg (bcells Y[i]).toArray) w' := fun w' kk i hi => by
          obtain ⟨a1, a2, a3⟩ := rcell i hi
          obtain ⟨b1, b2, b3⟩ := zcell i hi
          have hxl : (Try.prog.info? 34).map (·.size) = some (bcells Y[i]).length := by rw [HINFO.out, bcells_length, r32 _ (List.getElem_mem hi)]
          exact ⟨a1, b1, run_loadVar_mid w' rg (ro + i * 32) 34 (bcells Y[i]) _ (rangeAt_kept kk a3 a2 (Nat.ne_of_lt a2)) Try.underlying34 rfl hxl, run_loadVar_mid w' zg2 (zo2 + i * 32) 34 (bcells Y[i]) _ (rangeAt_kept kk b3 b2 (Nat.ne_of_lt b2)) Try.underlying34 rfl hxl⟩
        have hey : ∀ i (hi : i < Y.length) w', (Op.equalIn 10000 34 (.agg (bcells Y[i]).toArray) (.agg (bcells Y[i]).toArray)).run Try.prog w' = .ok true w' := fun i hi w' => mac_equalIn w' Y[i] (r32 _ (List.getElem_mem hi))
        have HRC := Lib.hid hrc
        have HEY := Lib.hid hey
        have HK9 := Lib.hid (HK08.out.trans (K89.mono HK08.out.size (fun i hi _ => by have := HK08.out.size; omega)))
        clear hrc hey r32 z32 rcell zcell K89 k9 HFZ HFZ2 HKZ HCM HMC HK08 hK HY8
        go_wp2_with fail
        go_loopw [21] (fun i w9' => ∃ k : Nat, k ≤ Y.length ∧ i = .int .i64 (k : Int) ∧ Hid (Kept w9.heap.size w9.heap.size w9 w9')) (fun i _ => Y.length - (RowKit.intOf i).toNat)
        case atStart => exact ⟨0, by omega, rfl, Lib.hid (Kept.refl _ _ _)⟩
        case round =>
          obtain ⟨k, hk, rfl, hK⟩ := hrel
          by_cases hlt : k < Y.length
          · obtain ⟨rfl, rfl, _, _⟩ := HRC.out wr hK.out k hlt
            have hln : (k : Int) < (Y.length : Int) := by omega
            have hk0 : ¬ (k : Int) < 0 := by omega
            have hl1 : ∀ w', Kept w9.heap.size w9.heap.size w9 w' → (loadVar 34 ⟨rg, ro + k * 32, none⟩).run Try.prog w' = .ok (.agg (bcells Y[k]).toArray) w' := fun w' kk => (HRC.out w' kk k hlt).2.2.1
            have hl2 : ∀ w', Kept w9.heap.size w9.heap.size w9 w' → (loadVar 34 ⟨zg2, zo2 + k * 32, none⟩).run Try.prog w' = .ok (.agg (bcells Y[k]).toArray) w' := fun w' kk => (HRC.out w' kk k hlt).2.2.2
            have heq := HEY.out k hlt
            generalize (bcells Y[k]).toArray = cx at hl1 hl2 heq
            have HL1 := Lib.hid hl1
            have HL2 := Lib.hid hl2
            clear hl1 hl2
            go_upto_region 20 with fail
            have KD : Kept w9.heap.size w9.heap.size w9 wr.drew := hK.out.drew
            refine wp_region_noPanic ?_
            refine wp_region_held_drew (S := fun w' => Kept w9.heap.size w9.heap.size w9 w') (by kernel_rfl) (KD) (fun hH => ?_)
            refine wpAnyH_take_at (i := 0) 118 (.slice (some ⟨rg, ro, none⟩) Y.length rc) rfl rfl (by kernel_rfl) (by kernel_rfl) (by kernel_rfl) (fun _ _ _ h => h) (.inl ⟨by kernel_rfl, fun w9 _ => by go_simp⟩) hH ?_
            simp only [List.setIfInBounds_toArray, List.set_cons_zero, List.set_cons_succ]
            refine wpAnyH_take_at (i := 1) 119 (.int .i64 (k : Int)) rfl rfl (by kernel_rfl) (by kernel_rfl) (by kernel_rfl) (fun _ _ _ h => h) (.inl ⟨by kernel_rfl, fun w9 _ => by go_simp⟩) hH ?_
            simp only [List.setIfInBounds_toArray, List.set_cons_zero, List.set_cons_succ]
            refine wpAnyH_take_at (i := 2) 120 (.pointer (some ⟨rg, ro + k * 32, none⟩)) rfl rfl (by kernel_rfl) (by kernel_rfl) (by kernel_rfl) (fun _ _ _ h => h) (.inl ⟨by kernel_rfl, fun w9 _ => by go_simp⟩) hH ?_
            simp only [List.setIfInBounds_toArray, List.set_cons_zero, List.set_cons_succ]
            refine wpAnyH_take_at (i := 3) 121 (.agg cx) rfl rfl (by kernel_rfl) (by kernel_rfl) (by kernel_rfl) (fun _ _ _ h => h) (yieldsIf_load_known (by kernel_rfl) 34 _ rfl (rg) (ro + k * 32) rfl (.agg cx) (fun w' hw' => HL1.out w' hw')) hH ?_
            simp only [List.setIfInBounds_toArray, List.set_cons_zero, List.set_cons_succ]
            refine wpAnyH_take_at (i := 4) 122 (.slice (some ⟨zg2, zo2, none⟩) Y.length yc) rfl rfl (by kernel_rfl) (by kernel_rfl) (by kernel_rfl) (fun _ _ _ h => h) (.inl ⟨by kernel_rfl, fun w9 _ => by go_simp⟩) hH ?_
            simp only [List.setIfInBounds_toArray, List.set_cons_zero, List.set_cons_succ]
            refine wpAnyH_take_at (i := 5) 123 (.int .i64 (k : Int)) rfl rfl (by kernel_rfl) (by kernel_rfl) (by kernel_rfl) (fun _ _ _ h => h) (.inl ⟨by kernel_rfl, fun w9 _ => by go_simp⟩) hH ?_
            simp only [List.setIfInBounds_toArray, List.set_cons_zero, List.set_cons_succ]
            refine wpAnyH_take_at (i := 6) 124 (.pointer (some ⟨zg2, zo2 + k * 32, none⟩)) rfl rfl (by kernel_rfl) (by kernel_rfl) (by kernel_rfl) (fun _ _ _ h => h) (.inl ⟨by kernel_rfl, fun w9 _ => by go_simp⟩) hH ?_
            simp only [List.setIfInBounds_toArray, List.set_cons_zero, List.set_cons_succ]
            refine wpAnyH_take_at (i := 7) 125 (.agg cx) rfl rfl (by kernel_rfl) (by kernel_rfl) (by kernel_rfl) (fun _ _ _ h => h) (yieldsIf_load_known (by kernel_rfl) 34 _ rfl (zg2) (zo2 + k * 32) rfl (.agg cx) (fun w' hw' => HL2.out w' hw')) hH ?_
            simp only [List.setIfInBounds_toArray, List.set_cons_zero, List.set_cons_succ]
            refine wpAnyH_take_at (i := 8) 126 (.bool false) rfl rfl (by kernel_rfl) (by kernel_rfl) (by kernel_rfl) (fun _ _ _ h => h) (.inl ⟨by kernel_rfl, fun w9 _ => by go_simp⟩) hH ?_
            simp only [List.setIfInBounds_toArray, List.set_cons_zero, List.set_cons_succ]
            refine wpAnyH_done (by kernel_rfl) ?_ _
            refine NoPanic.normal ?_
            go_wp2
            exact ⟨⟨k + 1, by omega, by rw [Int.natCast_add]; rfl, Lib.hid KD⟩, by simp only [RowKit.intOf]; omega⟩
          · obtain rfl : k = Y.length := by omega
            have hd3 : decide ((Y.length : Int) < (Y.length : Int)) = false := decide_eq_false (by omega)
            go_wp2
            go_ret
            exact ⟨rfl, HK9.out.trans (hK.out.mono HK9.out.size (fun i hi _ => by have := HK9.out.size; omega))⟩

end Go.Proofs.Ytdedookpdnbdiaa
