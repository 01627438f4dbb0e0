/-
  BookNoted; BookFewMath; BookAwakeMath; BookAwakeRow; BookAwake: several texts in one.
-/
import Derived.Test.YtdedookpdnbdiaaGF
import Derived.Test.YtdedookpdnbdiaaGD
import Derived.OwnWalk
import Derived.Test.YtdedookpdnbdiaaGG

namespace Go.Proofs.Ytdedookpdnbdiaa
open Go.RowKit Go.Lib

/-- A book stays where the document's list of facts grows. -/
theorem Bok.stayF {w w' : World} {base bb b : Nat} {fs : List (List (List UInt8) × List (List UInt8))} {nmf : Lit → Option Value} {S : BokS} (h : Bok w base bb fs b nmf S) (k : StayF w w') : Bok w' base bb fs b nmf S := by
  have hc : ∀ (i : Nat) (cs : Array Value) (t : TypeId) (fr : Nat × Nat), t ≠ 66 → w.heap[i]? = some (.cells cs t fr) → w'.heap[i]? = some (.cells cs t fr) := fun i cs t fr ht hh => k i _ hh (fun cs2 fr2 e => by
    injection e with _ h2 _
    exact ht h2)
  have hm : ∀ {i : Nat}, (∃ es c, w.heap[i]? = some (.map es c)) → w'.heap[i]? = w.heap[i]? := fun {i} ⟨es, c, hh⟩ => by
    rw [hh]
    exact k i _ hh (fun cs2 fr2 e => by cases e)
  refine ⟨hc _ _ _ _ (by decide) h.cells, h.lowb, h.lowa, h.lown, h.lowm, h.an, h.amm, h.nmm, ?_, h.alike.same (hm h.alike.map), h.need.same (hm h.need.map), h.names.same (hm h.names.map), fun o => (h.row o).stay fun i hi => ?_, h.sep, h.free, h.needed, h.same, h.found, h.few⟩
  · refine h.facts.stay (fun i hi => ?_) (fun i cs fr hh => hc _ _ _ _ (by decide) hh)
    obtain ⟨ps, _, ho, _⟩ := h.facts
    obtain ⟨cs, hh⟩ := rowCells ho i hi
    rw [hh]
    exact hc _ _ _ _ (by decide) hh
  · obtain ⟨cs, hh⟩ := (h.row o).cellsAt i hi
    rw [hh]
    exact hc _ _ _ _ (by decide) hh
/-- The document's list stays where the book grows. -/
theorem OwnF.bk {w w' : World} {base b : Nat} {v : Value} {L : List (List (List UInt8) × List (List UInt8))} (h : OwnF w base v L) (k : BkFr b w w') : OwnF w' base v L := by
  obtain ⟨ps, hl, ho, hp⟩ := h
  have one : ∀ {B : Nat} {u : Value} {M : List (List UInt8)}, Own w B u M → Own w' B u M := fun {B u M} h => by
    refine ⟨h.1, h.2.1, ?_⟩
    rcases h.2.2 with h1 | ⟨g, cap, cur, rfl, hb2, hh, rest⟩
    · exact .inl h1
    · exact .inr ⟨g, cap, cur, rfl, hb2, k.oth _ _ _ _ hh (by decide) (by decide) (by decide), rest⟩
  refine ⟨ps, hl, ⟨ho.1, ?_⟩, fun i hi hpi => ⟨one (hp i hi hpi).1, one (hp i hi hpi).2⟩⟩
  rcases ho.2 with h1 | ⟨g, cap, cur, rfl, hb2, hh, rest⟩
  · exact .inl h1
  · exact .inr ⟨g, cap, cur, rfl, hb2, k.oth _ _ _ _ hh (by decide) (by decide) (by decide), rest⟩

/-- Facts noted one behind the other. -/
def notes (L : List (List (List UInt8) × List (List UInt8))) : List (List (List UInt8) × List (List UInt8)) := L.foldl Bk.note []
theorem notes_more (L : List (List (List UInt8) × List (List UInt8))) (k : Nat) (h : k < L.length) : notes (L.take (k + 1)) = Bk.note (notes (L.take k)) L[k] := by
  rw [List.take_succ_eq_append_getElem h, notes, notes, List.foldl_append]
  rfl
theorem bknote_length (fs : List (List (List UInt8) × List (List UInt8))) (f : List (List UInt8) × List (List UInt8)) : (Bk.note fs f).length ≤ fs.length + 1 := by
  unfold Bk.note
  split
  · omega
  · split
    · omega
    · simp
theorem bknote_mem (fs : List (List (List UInt8) × List (List UInt8))) (f g : List (List UInt8) × List (List UInt8)) (h : g ∈ Bk.note fs f) : g ∈ fs ∨ g = f := by
  unfold Bk.note at h
  split at h
  · exact .inl h
  · split at h
    · exact .inl h
    · simpa using h
theorem notes_length (L : List (List (List UInt8) × List (List UInt8))) : ∀ k, k ≤ L.length → (notes (L.take k)).length ≤ k
  | 0, _ => by simp [notes]
  | k + 1, h => by
    rw [notes_more L k (by omega)]
    have := notes_length L k (by omega)
    have := bknote_length (notes (L.take k)) L[k]
    omega
theorem notes_mem (L : List (List (List UInt8) × List (List UInt8))) : ∀ k, k ≤ L.length → ∀ g ∈ notes (L.take k), g ∈ L
  | 0, _, g, hg => by simp [notes] at hg
  | k + 1, h, g, hg => by
    rw [notes_more L k (by omega)] at hg
    rcases bknote_mem _ _ _ hg with h1 | rfl
    · exact notes_mem L k (by omega) g h1
    · exact List.getElem_mem _

theorem notedFactInfo : (Try.prog.info? 104).map (·.size) = some 2 := by kernel_rfl

/-- What is noted. -/
def NotedPost (L : List (List (List UInt8) × List (List UInt8))) (w : World) (e : Ending) (w' : World) : Prop :=
  ∃ bb u, e = .returned (.tuple #[.pointer (some ⟨bb, 0, none⟩), u, .bool true]) ∧ (∃ n, n ≤ 62 * L.length ∧ ∃ S, Bok w' w.heap.size bb (notes L) n (fun _ => none) S) ∧ OwnF w' w.heap.size u (notes L) ∧ Kept w.heap.size w.heap.size w w'

set_option maxRecDepth 100000 in
set_option maxHeartbeats 3200000 in
theorem noted_calls (L : List (List (List UInt8) × List (List UInt8))) (v : Value) (w : World) (hF : FsW w v L) (hFew : Few L) : Calls Try.prog 16 #[v] w (NotedPost L w) := by
  have hL60 := hFew.1
  have hsz := hFew.2
  obtain ⟨ad, g, o, c, rfl, hcell⟩ := hF
  have HC := Lib.hid hcell
  have HSZ := Lib.hid hsz
  clear hcell hsz hFew
  have hnew := new_book w
  have HNEW := Lib.hid hnew
  clear hnew
  go_enter Try.func16, Try.ntmps16
  go_wp2_with (go_at_call 42; refine HNEW.out.mono ?_; rintro e w0 ⟨bb, S0, rfl, hB0, k0⟩)
  have HB0 := Lib.hid hB0
  have HK0 := Lib.hid k0
  clear hB0 k0 HNEW
  go_loopw [6, 7, 8] (fun u ok i w9 => ∃ k : Nat, k ≤ L.length ∧ i = .int .i64 (k : Int) ∧ ok = .bool true ∧ Hid (∃ n, n ≤ 62 * k ∧ ∃ S, Bok w9 w.heap.size bb (notes (L.take k)) n (fun _ => none) S) ∧ Hid (OwnF w9 w.heap.size u (notes (L.take k))) ∧ Hid (Kept w.heap.size w.heap.size w w9)) (fun _ _ i _ => L.length - (RowKit.intOf i).toNat)
  case atStart => exact ⟨0, by omega, rfl, rfl, Lib.hid ⟨0, by omega, S0, HB0.out⟩, Lib.hid (OwnF.nil _ _), HK0⟩
  case round =>
    obtain ⟨k, hk, rfl, rfl, hBk, hO, hK⟩ := hrel
    by_cases hlt : k < L.length
    · obtain ⟨rfl, hg, a, b, ca, cb, ha, hb, wa, wb⟩ := HC.out k hlt
      have hln : (k : Int) < (L.length : Int) := by omega
      have hk0 : ¬ (k : Int) < 0 := by omega
      obtain ⟨hz1, hz2⟩ := HSZ.out L[k] (List.getElem_mem hlt)
      have hnm := notes_more L k hlt
      have hnl := notes_length L k (by omega)
      have hns : ∀ f ∈ notes (L.take k), f.1.length ≤ 60 ∧ f.2.length ≤ 60 := fun f hf => HSZ.out f (notes_mem L k (by omega) f hf)
      generalize L[k] = f at ha hb hz1 hz2 hnm
      generalize notes (L.take k) = M at hBk hO hnm hnl hns
      obtain ⟨zp1, aad, ag, ao, ac, rfl, zp2⟩ := id ha
      clear zp1 zp2
      obtain ⟨zp1, bad, bg, bo, bc, rfl, zp2⟩ := id hb
      clear zp1 zp2
      obtain ⟨a, ea⟩ : ∃ a : Value, a = .slice aad f.1.length ac := ⟨_, rfl⟩
      obtain ⟨b, eb⟩ : ∃ b : Value, b = .slice bad f.2.length bc := ⟨_, rfl⟩
      rw [← ea] at ha ca wa
      rw [← eb] at hb cb wb
      have hEi : ∃ E : Int, E = if f.2.length = 0 then 1 else 0 := ⟨_, rfl⟩
      obtain ⟨E, hE⟩ := hEi
      have hbase := hK.out.size
      have hcaW : ∀ w', Kept wr.heap.size wr.heap.size wr w' → w'.cell? ⟨g, o + k * 2, none⟩ = some a := fun w' kk => (kk.cell (p := ⟨g, o + k * 2, none⟩) (by show g < _; omega) (by show g ≠ _; omega)).trans ((hK.out.cell (p := ⟨g, o + k * 2, none⟩) hg (Nat.ne_of_lt hg)).trans ca)
      have hcbW : ∀ w', Kept wr.heap.size wr.heap.size wr w' → w'.cell? ⟨g, o + k * 2 + 1, none⟩ = some b := fun w' kk => (kk.cell (p := ⟨g, o + k * 2 + 1, none⟩) (by show g < _; omega) (by show g ≠ _; omega)).trans ((hK.out.cell (p := ⟨g, o + k * 2 + 1, none⟩) hg (Nat.ne_of_lt hg)).trans cb)
      have hrow : ∀ w', Kept w.heap.size w.heap.size w w' → w'.rangeAt g (o + k * 2) [a, b] := fun w' kk j u hj => by
        match j, hj with
        | 0, hj => cases hj; exact (kk.cell (p := ⟨g, o + k * 2, none⟩) hg (Nat.ne_of_lt hg)).trans ca
        | 1, hj => cases hj; exact (kk.cell (p := ⟨g, o + k * 2 + 1, none⟩) hg (Nat.ne_of_lt hg)).trans cb
        | j + 2, hj => cases hj
      have ha' : ∀ w', Kept w.heap.size w.heap.size w w' → Hs w' a f.1 := fun w' kk => ha.kept kk
      have hb' : ∀ w', Kept w.heap.size w.heap.size w w' → Hs w' b f.2 := fun w' kk => hb.kept kk
      have hout : ∀ w', Kept wr.heap.size wr.heap.size wr w' → Kept w.heap.size w.heap.size w w' := fun w' kk => hK.out.trans (kk.mono hbase (fun i hi _ => by omega))
      have hpa : ∀ w', Kept wr.heap.size wr.heap.size wr w' → Calls Try.prog 65 #[a] w' fun e w2 => ∃ u, e = .returned u ∧ Own w2 w'.heap.size u f.1 ∧ Kept w'.heap.size w'.heap.size w' w2 := fun w' kk => plain_calls f.1 a w' (ha' w' (hout w' kk)) (by omega)
      have hpb : ∀ w', Kept wr.heap.size wr.heap.size wr w' → Calls Try.prog 65 #[b] w' fun e w2 => ∃ u, e = .returned u ∧ Own w2 w'.heap.size u f.2 ∧ Kept w'.heap.size w'.heap.size w' w2 := fun w' kk => plain_calls f.2 b w' (hb' w' (hout w' kk)) (by omega)
      have hrn : ∀ (w' : World) (ua ub : Value), Kept wr.heap.size wr.heap.size wr w' → Own w' 0 ua f.1 → Own w' 0 ub f.2 → Calls Try.prog 46 #[u6, .agg #[ua, ub]] w' fun e w2 => ∃ u, e = .returned (.tuple #[u, .int .i64 E]) ∧ OwnF w2 w.heap.size u (Bk.note M f) ∧ Kept w.heap.size w.heap.size w' w2 ∧ StayF w' w2 := fun w' ua ub kk h1 h2 => by
        rw [hE]
        exact refnote_calls M f u6 ua ub w' w.heap.size (hO.out.kept kk (Nat.le_refl _)) (Nat.le_trans hbase kk.size) h1 h2 (by omega) (fun g hg => by have := hns g hg; omega) (by omega) (by omega)
      have hbn : ∀ w', (∃ n, n ≤ 62 * k ∧ ∃ S, Bok w' w.heap.size bb M n (fun _ => none) S) → Kept w.heap.size w.heap.size w w' → Calls Try.prog 64 #[.pointer (some ⟨bb, 0, none⟩), .agg #[a, b]] w' fun e w2 => e = .returned (.int .i64 E) ∧ (∃ n, n ≤ 62 * (k + 1) ∧ ∃ S, Bok w2 w.heap.size bb (Bk.note M f) n (fun _ => none) S) ∧ BkFr w.heap.size w' w2 := fun w' ⟨n, hn, S, hB⟩ kk => by
        rw [hE]
        refine (note_calls w.heap.size bb n M (fun _ => none) S f a b w' hB kk.size (ha' w' kk) (hb' w' kk) wa wb (fun w2 h => ha' w2 (kk.trans h.kept)) (by omega) (by omega) (fun g hg => by have := hns g hg; omega) (by omega) (by omega)).mono ?_
        rintro e w2 ⟨h1, ⟨n', hn', S', hB'⟩, h2⟩
        exact ⟨h1, ⟨n', by omega, S', hB'⟩, h2⟩
      have hln2 : ∀ w', (∃ n, n ≤ 62 * (k + 1) ∧ ∃ S, Bok w' w.heap.size bb (Bk.note M f) n (fun _ => none) S) → Calls Try.prog 47 #[.pointer (some ⟨bb, 0, none⟩)] w' fun e w2 => e = .returned (.int .i64 ((Bk.note M f).length : Nat)) ∧ w2 = w' := fun w' ⟨n, _, S, hB⟩ => len_calls _ _ _ _ _ _ _ hB
      have hia : (Try.prog.info? 104).map (·.size) = some [a, b].length := notedFactInfo
      have hbd : ((Bk.note M f).length : Int) < 1073741824 := by have := bknote_length M f; omega
      subst ea
      subst eb
      have HCA := Lib.hid hcaW
      have HCB := Lib.hid hcbW
      have HROW := Lib.hid hrow
      have HPA := Lib.hid hpa
      have HPB := Lib.hid hpb
      have HRN := Lib.hid hrn
      have HBN := Lib.hid hbn
      have HLN := Lib.hid hln2
      have HIA := Lib.hid hia
      have HNM := Lib.hid hnm
      have HOUT := Lib.hid hout
      have HBASE := Lib.hid hbase
      have hk60 : k < 60 := by omega
      have d1 := hcaW wr.drew (Kept.refl _ _ _).drew
      have d2 := hcbW wr.drew (Kept.refl _ _ _).drew
      clear hcaW hcbW hrow hpa hpb hrn hbn hln2 hia hnm hout hbase ha' hb' ha hb hz1 hz2 hnl hns hE ca cb
      go_upto_region 7 with fail
      go_region_with (first
        | (go_at_call 65; refine (HPB.out _ K7).mono ?_; rintro e w8 ⟨ub, rfl, o8, k8⟩; obtain ⟨zp1, vad, vg, vo, vc, rfl, zp2⟩ := id o8.hs; clear zp1 zp2; have O8 := Lib.hid o8; have KK8 := Lib.hid k8; clear o8; have K8 : Kept wr.heap.size wr.heap.size wr w8 := K7.trans (k8.mono K7.size (fun i hi _ => by have := K7.size; omega)))
        | (go_at_call 65; refine (HPA.out _ (Kept.refl _ _ _).drew).mono ?_; rintro e w7 ⟨ua, rfl, o7, k7⟩; obtain ⟨zp1, uad, ug, uo, uc, rfl, zp2⟩ := id o7.hs; clear zp1 zp2; have O7 := Lib.hid o7; clear o7; have K7 : Kept wr.heap.size wr.heap.size wr w7 := (Kept.refl _ _ _).drew.trans k7; have c7 := HCB.out w7 K7; have c7a := HCA.out w7 K7)
        | (go_at_call 46; refine (HRN.out _ _ _ K8 ((O7.out.kept KK8.out (Nat.le_refl _)).mono (Nat.zero_le _)) (O8.out.mono (Nat.zero_le _))).mono ?_; rintro e w10 ⟨u', rfl, o10, k10, s10⟩; have O10 := Lib.hid o10; have K10 := Lib.hid k10; have S10 := Lib.hid s10; clear o10 k10 s10))
      all_goals
        have hK10 : Kept w.heap.size w.heap.size w w10 := (HOUT.out _ K8).trans K10.out
        have hB10 : ∃ n, n ≤ 62 * k ∧ ∃ S, Bok w10 w.heap.size bb M n (fun _ => none) S := by
          obtain ⟨n, hn, S, hB⟩ := hBk.out
          exact ⟨n, hn, S, (hB.kept K8).stayF S10.out⟩
        obtain ⟨fad, fg, fo, fc, rfl, zp⟩ := id O10.out.fs
        clear zp
        have n1 := HBN.out w10 hB10 hK10
        have r1 := HROW.out w10 hK10
        have HK10 := Lib.hid hK10
        have N1 := Lib.hid n1
        have R1 := Lib.hid r1
        clear hK10 hB10 n1 r1 c7 c7a d1 d2 K7 K8 k7 k8
        go_upto_region 9 with fail
        refine wp_region_lit ?_
        refine BigFrame.wpList_want ?hwa0 ?_
        case hwa0 => kernel_rfl
        intro K hK
        go_simp
        refine hK _ _ ?_
        clear hK K
        refine BigFrame.wpList_want ?hwa1 ?_
        case hwa1 => kernel_rfl
        intro K hK
        go_simp
        refine hK _ _ ?_
        clear hK K
        refine BigFrame.wpList_want ?hwa2 ?_
        case hwa2 => kernel_rfl
        intro K hK
        go_simp
        refine hK _ _ ?_
        clear hK K
        refine BigFrame.wpList_want ?hwa3 ?_
        case hwa3 => kernel_rfl
        intro K hK
        go_simp
        refine hK _ _ ?_
        clear hK K
        refine BigFrame.wpList_want ?hwa4 ?_
        case hwa4 => kernel_rfl
        intro K hK
        go_simp
        refine hK _ _ ?_
        clear hK K
        refine BigFrame.wpList_want ?hwa5 ?_
        case hwa5 => kernel_rfl
        intro K hK
        go_simp
        refine hK _ _ ?_
        clear hK K
        refine wpList_load_at_g ?hwa6 104 _ rfl g (o + k * 2) rfl [.slice aad f.1.length ac, .slice bad f.2.length bc] _ R1.out Try.underlying104 rfl HIA.out ?_
        case hwa6 => kernel_rfl
        simp only [Act.put, List.setIfInBounds_toArray, List.set_cons_zero, List.set_cons_succ]
        refine BigFrame.wpList_want ?hwa7 ?_
        case hwa7 => kernel_rfl
        intro K hK
        go_simp
        go_at_call 64; refine N1.out.mono ?_; rintro e w11 ⟨rfl, hB11, f11⟩; have HB11 := Lib.hid hB11; have F11 := Lib.hid f11; clear hB11 f11
        refine hK _ _ ?_
        clear hK K
        refine BigFrame.wpList_want ?hwa8 ?_
        case hwa8 => kernel_rfl
        intro K hK
        go_simp
        refine hK _ _ ?_
        clear hK K
        refine BigFrame.wpList_want ?hwa9 ?_
        case hwa9 => kernel_rfl
        intro K hK
        go_simp
        refine hK _ _ ?_
        clear hK K
        refine BigFrame.wpList_want ?hwb0 ?_
        case hwb0 => kernel_rfl
        intro K hK
        go_simp
        refine hK _ _ ?_
        clear hK K
        refine BigFrame.wpList_want ?hwb1 ?_
        case hwb1 => kernel_rfl
        intro K hK
        go_simp
        refine hK _ _ ?_
        clear hK K
        refine BigFrame.wpList_want ?hwb2 ?_
        case hwb2 => kernel_rfl
        intro K hK
        go_simp
        refine hK _ _ ?_
        clear hK K
        refine BigFrame.wpList_want ?hwb3 ?_
        case hwb3 => kernel_rfl
        intro K hK
        go_simp
        go_at_call 47; refine (HLN.out w11 HB11.out).mono ?_; rintro e w12 ⟨rfl, rfl⟩
        refine hK _ _ ?_
        clear hK K
        refine BigFrame.wpList_want ?hwb4 ?_
        case hwb4 => kernel_rfl
        intro K hK
        go_simp
        refine hK _ _ ?_
        clear hK K
        refine BigFrame.wpList_want ?hwb5 ?_
        case hwb5 => kernel_rfl
        intro K hK
        go_simp
        refine hK _ _ ?_
        clear hK K
        refine BigFrame.wpList_want ?hwb6 ?_
        case hwb6 => kernel_rfl
        intro K hK
        go_simp
        refine hK _ _ ?_
        clear hK K
        refine BigFrame.wpList_want ?hwb7 ?_
        case hwb7 => kernel_rfl
        intro K hK
        go_simp
        refine hK _ _ ?_
        clear hK K
        refine BigFrame.wpList_want ?hwb8 ?_
        case hwb8 => kernel_rfl
        intro K hK
        go_simp
        refine hK _ _ ?_
        clear hK K
        have hf11 := F11.out
        have hE1 : OwnF w12 w.heap.size (.slice fad (Bk.note M f).length fc) (notes (L.take (k + 1))) := by rw [HNM.out]; exact O10.out.bk hf11
        have hE2 := HB11.out
        rw [← HNM.out] at hE2
        have HE1 := Lib.hid hE1
        have HE2 := Lib.hid hE2
        have HE3 := Lib.hid (HK10.out.trans hf11.kept)
        clear hE1 hE2 hf11
        go_wp2
        exact ⟨⟨k + 1, by omega, by rw [Int.natCast_add]; rfl, rfl, HE2, HE1, HE3⟩, by simp only [RowKit.intOf]; omega⟩
    · obtain rfl : k = L.length := by omega
      have hd3 : decide ((L.length : Int) < (L.length : Int)) = false := decide_eq_false (by omega)
      have hB2 := hBk.out
      have hO2 := hO.out
      rw [List.take_of_length_le (Nat.le_refl _)] at hB2 hO2
      have HB2 := Lib.hid hB2
      have HO2 := Lib.hid hO2
      clear hB2 hO2
      go_wp2
      refine bodyPost_ret (results_tmp3 rfl _ _ _) rfl ?_
      exact ⟨bb, _, rfl, HB2.out, HO2.out, hK.out⟩

end Go.Proofs.Ytdedookpdnbdiaa

namespace Go.Proofs.Ytdedookpdnbdiaa
open Go.RowKit Go.Lib

theorem outs_le (b : Nat) : ∀ (fs : List (List (List UInt8) × List (List UInt8))), (∀ f ∈ fs, f.2.length ≤ b) → (Bk.outs fs).length ≤ fs.length * b
  | [], _ => by simp [Bk.outs]
  | f :: fs, h => by
    have h1 := outs_le b fs (fun g hg => h g (by simp [hg]))
    have h2 := h f (by simp)
    simp only [Bk.outs, List.flatMap_cons, List.length_append, List.length_cons] at h1 ⊢
    rw [Nat.add_mul]
    omega
theorem is_length {fs : List (List (List UInt8) × List (List UInt8))} {fr M : List (List UInt8)} (h : Bk.Is fs fr M) : M.length ≤ fr.length + (Bk.outs fs).length := by
  have hn : M.Nodup := h.rising.imp fun {a b} hab e => by
    subst e
    rw [Bk.less_irrefl] at hab
    cases hab
  have := Bk.nodup_le M (fr ++ Bk.outs fs) hn (fun x hx => Bk.cl_mem ((h.mem x).1 hx))
  rwa [List.length_append] at this
/-- What is few keeps its bounds when it is noted. -/
theorem few_notes {L : List (List (List UInt8) × List (List UInt8))} (h : Few L) : (notes L).length ≤ 60 ∧ (Bk.outs (notes L)).length ≤ 3600 ∧ ∀ f ∈ notes L, f.1.length < 1000000 ∧ f.2.length < 1000000 := by
  have h1 := notes_length L L.length (Nat.le_refl _)
  have h2 := notes_mem L L.length (Nat.le_refl _)
  rw [List.take_of_length_le (Nat.le_refl _)] at h1 h2
  have h3 := outs_le 60 (notes L) (fun f hf => (h.2 f (h2 f hf)).2)
  have h4 := h.1
  refine ⟨by omega, ?_, fun f hf => ?_⟩
  · have : (notes L).length * 60 ≤ 60 * 60 := Nat.mul_le_mul_right 60 (by omega)
    omega
  · have := h.2 f (h2 f hf)
    omega

theorem Bok.low {w w' : World} {base bb n : Nat} {fs : List (List (List UInt8) × List (List UInt8))} {nmf : Lit → Option Value} (h : ∃ S, Bok w base bb fs n nmf S) (k : Kept w.heap.size w.heap.size w w') : ∃ S, Bok w' base bb fs n nmf S := by
  obtain ⟨S, hB⟩ := h
  exact ⟨S, hB.kept k⟩
theorem alikeB_refl (L : List (List UInt8)) : alikeB L L = true := by unfold alikeB; exact beq_self_eq_true L

end Go.Proofs.Ytdedookpdnbdiaa

namespace Go.Proofs.Ytdedookpdnbdiaa

/-- The digest of one byte and nothing else. -/
def dg (i : UInt8) : List UInt8 := i :: List.replicate 31 0
theorem dg_length (i : UInt8) : (dg i).length = 32 := rfl
theorem dg_inj {i j : UInt8} (h : dg i = dg j) : i = j := (List.cons.inj h).1
def exf1 : List (List UInt8) × List (List UInt8) := ([dg 1], [dg 2])
def exf2 : List (List UInt8) × List (List UInt8) := ([dg 2, dg 3], [dg 4])
theorem ex_note1 : Bk.note [] exf1 = [exf1] := rfl
theorem ex_note2 : Bk.note [exf1] exf2 = [exf1, exf2] := by decide
theorem ex_one {x : List UInt8} (h : Bk.Cl [exf1, exf2] [dg 1] x) : x = dg 1 ∨ x = dg 2 := by
  induction h with
  | base x hx => exact .inl (List.mem_singleton.1 hx)
  | fact f o hf _ ho ih =>
    rcases List.mem_cons.1 hf with rfl | hf
    · exact .inr (List.mem_singleton.1 ho)
    · obtain rfl := List.mem_singleton.1 hf
      have h3 := ih (dg 3) (by simp [exf2])
      rcases h3 with h3 | h3
      · exact absurd (dg_inj h3) (by decide)
      · exact absurd (dg_inj h3) (by decide)
theorem ex_two : Bk.Cl [exf1, exf2] [dg 1] (dg 2) := .fact exf1 _ (by simp) (fun x hx => .base x hx) (by simp [exf1])
theorem ex_not : ¬ Bk.Cl [exf1, exf2] [dg 1] (dg 4) := fun h => by
  rcases ex_one h with h | h
  · exact absurd (dg_inj h) (by decide)
  · exact absurd (dg_inj h) (by decide)
theorem ex_four : Bk.Cl [exf1, exf2] [dg 1, dg 3] (dg 4) := by
  refine .fact exf2 _ (by simp) (fun x hx => ?_) (by simp [exf2])
  rcases List.mem_cons.1 hx with rfl | hx
  · exact .fact exf1 _ (by simp) (fun x hx => .base x (by rw [List.mem_singleton.1 hx]; simp)) (by simp [exf1])
  · rw [List.mem_singleton.1 hx]
    exact .base _ (by simp)
theorem ex_is {M : List (List UInt8)} (h : Bk.Is [exf1, exf2] [dg 1] M) : M.length = 2 := by
  have hk : Bk.Is [exf1, exf2] [dg 1] [dg 1, dg 2] := by
    refine ⟨List.Pairwise.cons (fun x hx => ?_) (List.Pairwise.cons (fun x hx => nomatch hx) List.Pairwise.nil), fun x => ⟨fun hx => ?_, fun hx => ?_⟩⟩
    · rw [List.mem_singleton.1 hx]
      rfl
    · rcases List.mem_cons.1 hx with rfl | hx
      · exact .base _ (by simp)
      · rw [List.mem_singleton.1 hx]
        exact ex_two
    · rcases ex_one hx with rfl | rfl <;> simp
  rw [Bk.Is.one h hk]
  rfl

end Go.Proofs.Ytdedookpdnbdiaa

namespace Go.Proofs.Ytdedookpdnbdiaa
open Go.RowKit Go.Lib

section
variable {P : Program} {ops : Array Oper} {rest : List Oper} {o : Oper} {a : Act} {w w' : World} {Q : Exit → Act → World → Prop}
theorem wpList_build_k (hgd : o.guard = none) (t : TypeId) (x : Operand) (ho : o.op = .build t #[(0, x)]) (v : Value) {u : Value} (hx : a.eval x = v) (hr : (Instr.build t #[(0, v)]).run P w = .ok u w) (hk : wpList P ops Q rest (a.put o.dst u) w) : wpList P ops Q (o :: rest) a w := by
  refine wpList_plain hgd fun K hK => ?_
  unfold Oper.wp execOp
  simp only [ho, List.map_toArray, List.map_cons, List.map_nil, hx, Sem.run_bind, hr, Result.andThen_ok, Sem.run_pure]
  exact hK _ _ hk
theorem wpList_alloc_k (hgd : o.guard = none) (t : TypeId) (ho : o.op = .alloc t) {u : Value} (hr : (Instr.alloc t true (.tuple #[])).run P w = .ok u w') (hk : wpList P ops Q rest (a.put o.dst u) w') : wpList P ops Q (o :: rest) a w := by
  refine wpList_plain hgd fun K hK => ?_
  unfold Oper.wp execOp
  simp only [ho, Sem.run_bind, hr, Result.andThen_ok, Sem.run_pure]
  exact hK _ _ hk
end
theorem build_dg1 (w : World) : (Instr.build 34 #[(0, .int .u8 1)]).run Try.prog w = .ok (.agg (bcells (dg 1)).toArray) w := by kernel_rfl
theorem build_dg2 (w : World) : (Instr.build 34 #[(0, .int .u8 2)]).run Try.prog w = .ok (.agg (bcells (dg 2)).toArray) w := by kernel_rfl
theorem build_dg3 (w : World) : (Instr.build 34 #[(0, .int .u8 3)]).run Try.prog w = .ok (.agg (bcells (dg 3)).toArray) w := by kernel_rfl
theorem build_dg4 (w : World) : (Instr.build 34 #[(0, .int .u8 4)]).run Try.prog w = .ok (.agg (bcells (dg 4)).toArray) w := by kernel_rfl
theorem alloc_zero (w : World) : (Instr.alloc 34 true (.tuple #[])).run Try.prog w = .ok (.pointer (some ⟨w.heap.size, 0, none⟩)) (w.alloc (.cells zeros32 34)) := by
  rw [← zeros32_eq]
  kernel_rfl

/-- A digest stored into its variable: the others stay. -/
theorem four_set {w : World} {g h : Nat} {cs old : Array Value} (hg : w.heap[g]? = some (.cells cs 34 (0, 0))) (hne : g ≠ h) : (w.setRow h old).heap[g]? = some (.cells cs 34 (0, 0)) := by
  rw [setRow_other39 w h g old hne]
  exact hg

theorem hs_one {w : World} {g c : Nat} {l : List UInt8} (hl : l.length = 32) (h : w.heap[g]? = some (.cells (bcells l).toArray 34 (0, 0))) : Hs w (.slice (some ⟨g, 0, none⟩) 1 c) [l] := ⟨fun x hx => by rw [List.mem_singleton.1 hx]; exact hl, some ⟨g, 0, none⟩, g, 0, c, rfl, fun i hi => by
  obtain rfl : i = 0 := by simp at hi; omega
  exact ⟨rfl, lt_of_block h, fun j v hv => by rw [Nat.zero_mul, Nat.zero_add]; exact cells_get h hv⟩⟩
theorem hs_two {w : World} {g c : Nat} {l m : List UInt8} (hl : l.length = 32) (hm : m.length = 32) (h : w.heap[g]? = some (.cells (bcells l ++ bcells m).toArray 34 (0, 0))) : Hs w (.slice (some ⟨g, 0, none⟩) 2 c) [l, m] := by
  refine ⟨fun x hx => ?_, some ⟨g, 0, none⟩, g, 0, c, rfl, fun i hi => ?_⟩
  · rcases List.mem_cons.1 hx with rfl | hx
    · exact hl
    · rw [List.mem_singleton.1 hx]
      exact hm
  · have hi2 : i = 0 ∨ i = 1 := by simp at hi; omega
    rcases hi2 with rfl | rfl
    · refine ⟨rfl, lt_of_block h, fun j v hv => ?_⟩
      rw [Nat.zero_mul, Nat.zero_add]
      refine cells_get h ?_
      have hv2 : (bcells l)[j]? = some v := hv
      rw [List.getElem?_append_left (List.getElem?_eq_some_iff.1 hv2).1]
      exact hv2
    · refine ⟨rfl, lt_of_block h, fun j v hv => ?_⟩
      rw [Nat.one_mul, Nat.zero_add]
      refine cells_get h ?_
      have hbl : (bcells l).length = 32 := by rw [bcells_length, hl]
      rw [List.getElem?_append_right (by omega), hbl, Nat.add_sub_cancel_left]
      exact hv

end Go.Proofs.Ytdedookpdnbdiaa

namespace Go.Proofs.Ytdedookpdnbdiaa
open Go.RowKit Go.Lib

set_option maxRecDepth 100000 in
set_option maxHeartbeats 3200000 in
theorem awake_calls (w : World) : Calls Try.prog 14 #[] w fun e w' => e = .returned (.bool true) ∧ Kept w.heap.size w.heap.size w w' := by
  have l1 : (bcells (dg 1)).length = 32 := rfl
  have l2 : (bcells (dg 2)).length = 32 := rfl
  have l3 : (bcells (dg 3)).length = 32 := rfl
  have l4 : (bcells (dg 4)).length = 32 := rfl
  have b1 := build_dg1
  have b2 := build_dg2
  have b3 := build_dg3
  have b4 := build_dg4
  have a1 := bcells_all (dg 1)
  have a2 := bcells_all (dg 2)
  have a3 := bcells_all (dg 3)
  have a4 := bcells_all (dg 4)
  obtain ⟨d1, hd1⟩ : ∃ d, d = (bcells (dg 1)).toArray := ⟨_, rfl⟩
  have z1 : d1.size = 32 := by rw [hd1, List.size_toArray, l1]
  rw [← hd1] at b1 a1
  have B1 := Lib.hid b1
  have A1 := Lib.hid a1
  have Z1 := Lib.hid z1
  have D1 := Lib.hid hd1
  have i1 : (Try.prog.info? 34).map (·.size) = some d1.size := by rw [z1]; kernel_rfl
  have I1 := Lib.hid i1
  obtain ⟨d2, hd2⟩ : ∃ d, d = (bcells (dg 2)).toArray := ⟨_, rfl⟩
  have z2 : d2.size = 32 := by rw [hd2, List.size_toArray, l2]
  rw [← hd2] at b2 a2
  have B2 := Lib.hid b2
  have A2 := Lib.hid a2
  have Z2 := Lib.hid z2
  have D2 := Lib.hid hd2
  have i2 : (Try.prog.info? 34).map (·.size) = some d2.size := by rw [z2]; kernel_rfl
  have I2 := Lib.hid i2
  obtain ⟨d3, hd3⟩ : ∃ d, d = (bcells (dg 3)).toArray := ⟨_, rfl⟩
  have z3 : d3.size = 32 := by rw [hd3, List.size_toArray, l3]
  rw [← hd3] at b3 a3
  have B3 := Lib.hid b3
  have A3 := Lib.hid a3
  have Z3 := Lib.hid z3
  have D3 := Lib.hid hd3
  have i3 : (Try.prog.info? 34).map (·.size) = some d3.size := by rw [z3]; kernel_rfl
  have I3 := Lib.hid i3
  obtain ⟨d4, hd4⟩ : ∃ d, d = (bcells (dg 4)).toArray := ⟨_, rfl⟩
  have z4 : d4.size = 32 := by rw [hd4, List.size_toArray, l4]
  rw [← hd4] at b4 a4
  have B4 := Lib.hid b4
  have A4 := Lib.hid a4
  have Z4 := Lib.hid z4
  have D4 := Lib.hid hd4
  have i4 : (Try.prog.info? 34).map (·.size) = some d4.size := by rw [z4]; kernel_rfl
  have I4 := Lib.hid i4
  clear l1 b1 a1 z1 hd1 i1 l2 b2 a2 z2 hd2 i2 l3 b3 a3 z3 hd3 i3 l4 b4 a4 z4 hd4 i4
  go_enter Try.func14, Try.ntmps14
  go_upto_region 1 with fail
  have h1 : (w.alloc (.cells zeros32 34)).heap.size = w.heap.size + 1 := by simp
  have h2 : ((w.alloc (.cells zeros32 34)).alloc (.cells zeros32 34)).heap.size = w.heap.size + 2 := by simp
  have h3 : (((w.alloc (.cells zeros32 34)).alloc (.cells zeros32 34)).alloc (.cells zeros32 34)).heap.size = w.heap.size + 3 := by simp
  refine wp_region_lit ?_
  refine wpList_build_k rfl 34 _ rfl (.int .u8 1) rfl (B1.out _) ?_
  simp only [Act.put, List.setIfInBounds_toArray, List.set_cons_zero, List.set_cons_succ]
  refine wpList_build_k rfl 34 _ rfl (.int .u8 2) rfl (B2.out _) ?_
  simp only [Act.put, List.setIfInBounds_toArray, List.set_cons_zero, List.set_cons_succ]
  refine wpList_build_k rfl 34 _ rfl (.int .u8 3) rfl (B3.out _) ?_
  simp only [Act.put, List.setIfInBounds_toArray, List.set_cons_zero, List.set_cons_succ]
  refine wpList_build_k rfl 34 _ rfl (.int .u8 4) rfl (B4.out _) ?_
  simp only [Act.put, List.setIfInBounds_toArray, List.set_cons_zero, List.set_cons_succ]
  refine wpList_alloc_k rfl 34 rfl (alloc_zero _) ?_
  simp only [Act.put, List.setIfInBounds_toArray, List.set_cons_zero, List.set_cons_succ]
  refine wpList_alloc_k rfl 34 rfl (alloc_zero _) ?_
  simp only [Act.put, List.setIfInBounds_toArray, List.set_cons_zero, List.set_cons_succ]
  try rw [h1]
  refine wpList_alloc_k rfl 34 rfl (alloc_zero _) ?_
  simp only [Act.put, List.setIfInBounds_toArray, List.set_cons_zero, List.set_cons_succ]
  try rw [h2]
  refine wpList_alloc_k rfl 34 rfl (alloc_zero _) ?_
  simp only [Act.put, List.setIfInBounds_toArray, List.set_cons_zero, List.set_cons_succ]
  try rw [h3]
  have K4 : Kept w.heap.size w.heap.size w ((((w.alloc (.cells zeros32 34)).alloc (.cells zeros32 34)).alloc (.cells zeros32 34)).alloc (.cells zeros32 34)) := ((((Kept.refl _ _ _).alloc (Nat.le_refl _) _).alloc (by omega) _).alloc (by omega) _).alloc (by omega) _
  have x1 : ((((w.alloc (.cells zeros32 34)).alloc (.cells zeros32 34)).alloc (.cells zeros32 34)).alloc (.cells zeros32 34)).heap[w.heap.size]? = some (.cells zeros32 34 (0, 0)) := by
    rw [Below.heap_alloc _ _ _ (by omega), Below.heap_alloc _ _ _ (by omega), Below.heap_alloc _ _ _ (by omega)]
    exact heap_new _ _
  have x2 : ((((w.alloc (.cells zeros32 34)).alloc (.cells zeros32 34)).alloc (.cells zeros32 34)).alloc (.cells zeros32 34)).heap[w.heap.size + 1]? = some (.cells zeros32 34 (0, 0)) := by
    rw [Below.heap_alloc _ _ _ (by omega), Below.heap_alloc _ _ _ (by omega), ← h1]
    exact heap_new _ _
  have x3 : ((((w.alloc (.cells zeros32 34)).alloc (.cells zeros32 34)).alloc (.cells zeros32 34)).alloc (.cells zeros32 34)).heap[w.heap.size + 2]? = some (.cells zeros32 34 (0, 0)) := by
    rw [Below.heap_alloc _ _ _ (by omega), ← h2]
    exact heap_new _ _
  have x4 : ((((w.alloc (.cells zeros32 34)).alloc (.cells zeros32 34)).alloc (.cells zeros32 34)).alloc (.cells zeros32 34)).heap[w.heap.size + 3]? = some (.cells zeros32 34 (0, 0)) := by
    rw [← h3]
    exact heap_new _ _
  generalize (((w.alloc (.cells zeros32 34)).alloc (.cells zeros32 34)).alloc (.cells zeros32 34)).alloc (.cells zeros32 34) = w4 at K4 x1 x2 x3 x4 ⊢
  clear h1 h2 h3
  refine wpList_store_row rfl 34 _ _ rfl (w.heap.size) d1 rfl rfl 34 zeros32 x1 I1.out (by rw [zeros32_size, Z1.out]) A1.out ?_
  simp only [Act.put]
  have y1 := setRow_heap w4 (w.heap.size) zeros32 d1 _ _ x1
  have x2 := four_set (h := w.heap.size) (old := d1) x2 (by omega)
  have x3 := four_set (h := w.heap.size) (old := d1) x3 (by omega)
  have x4 := four_set (h := w.heap.size) (old := d1) x4 (by omega)
  have K5 : Kept w.heap.size w.heap.size w (w4.setRow (w.heap.size) d1) := Kept.ofBelow (below_setRow (K4.below (Nat.le_refl _) (Nat.le_refl _)) (by omega) d1) (Nat.le_refl _)
  clear x1 K4
  generalize w4.setRow (w.heap.size) d1 = w5 at K5 y1 x2 x3 x4 ⊢
  refine wpList_store_row rfl 34 _ _ rfl (w.heap.size + 1) d2 rfl rfl 34 zeros32 x2 I2.out (by rw [zeros32_size, Z2.out]) A2.out ?_
  simp only [Act.put]
  have y2 := setRow_heap w5 (w.heap.size + 1) zeros32 d2 _ _ x2
  have y1 := four_set (h := w.heap.size + 1) (old := d2) y1 (by omega)
  have x3 := four_set (h := w.heap.size + 1) (old := d2) x3 (by omega)
  have x4 := four_set (h := w.heap.size + 1) (old := d2) x4 (by omega)
  have K6 : Kept w.heap.size w.heap.size w (w5.setRow (w.heap.size + 1) d2) := Kept.ofBelow (below_setRow (K5.below (Nat.le_refl _) (Nat.le_refl _)) (by omega) d2) (Nat.le_refl _)
  clear x2 K5
  generalize w5.setRow (w.heap.size + 1) d2 = w6 at K6 y1 y2 x3 x4 ⊢
  refine wpList_store_row rfl 34 _ _ rfl (w.heap.size + 2) d3 rfl rfl 34 zeros32 x3 I3.out (by rw [zeros32_size, Z3.out]) A3.out ?_
  simp only [Act.put]
  have y3 := setRow_heap w6 (w.heap.size + 2) zeros32 d3 _ _ x3
  have y1 := four_set (h := w.heap.size + 2) (old := d3) y1 (by omega)
  have y2 := four_set (h := w.heap.size + 2) (old := d3) y2 (by omega)
  have x4 := four_set (h := w.heap.size + 2) (old := d3) x4 (by omega)
  have K7 : Kept w.heap.size w.heap.size w (w6.setRow (w.heap.size + 2) d3) := Kept.ofBelow (below_setRow (K6.below (Nat.le_refl _) (Nat.le_refl _)) (by omega) d3) (Nat.le_refl _)
  clear x3 K6
  generalize w6.setRow (w.heap.size + 2) d3 = w7 at K7 y1 y2 y3 x4 ⊢
  refine wpList_store_row rfl 34 _ _ rfl (w.heap.size + 3) d4 rfl rfl 34 zeros32 x4 I4.out (by rw [zeros32_size, Z4.out]) A4.out ?_
  simp only [Act.put]
  have y4 := setRow_heap w7 (w.heap.size + 3) zeros32 d4 _ _ x4
  have y1 := four_set (h := w.heap.size + 3) (old := d4) y1 (by omega)
  have y2 := four_set (h := w.heap.size + 3) (old := d4) y2 (by omega)
  have y3 := four_set (h := w.heap.size + 3) (old := d4) y3 (by omega)
  have K8 : Kept w.heap.size w.heap.size w (w7.setRow (w.heap.size + 3) d4) := Kept.ofBelow (below_setRow (K7.below (Nat.le_refl _) (Nat.le_refl _)) (by omega) d4) (Nat.le_refl _)
  clear x4 K7
  generalize w7.setRow (w.heap.size + 3) d4 = w8 at K8 y1 y2 y3 y4 ⊢
  have hnew := new_book w8
  have HNEW := Lib.hid hnew
  clear hnew
  go_upto_region 3 with (go_at_call 42; refine HNEW.out.mono ?_; rintro e w9 ⟨bb, S0, rfl, hB0, k9⟩)
  have q1 := lt_of_block y1
  have q2 := lt_of_block y2
  have q3 := lt_of_block y3
  have q4 := lt_of_block y4
  have v1 := (k9.block _ q1 (Nat.ne_of_lt q1)).trans y1
  have v2 := (k9.block _ q2 (Nat.ne_of_lt q2)).trans y2
  have v3 := (k9.block _ q3 (Nat.ne_of_lt q3)).trans y3
  have v4 := (k9.block _ q4 (Nat.ne_of_lt q4)).trans y4
  have b9 : w8.heap.size ≤ w9.heap.size := k9.size
  have s8 : w.heap.size ≤ w8.heap.size := K8.size
  have hK9 : Kept w.heap.size w.heap.size w w9 := K8.trans (k9.mono s8 (fun k hk _ => by omega))
  clear q1 q2 q3 q4 y1 y2 y3 y4 K8 k9
  obtain ⟨i0, z0, hi0, hz0, hzs0, hs0, hb0⟩ := hash_info
  have HI0 := Lib.hid hi0
  have HZ0 := Lib.hid hz0
  have HS0 := Lib.hid hs0
  clear hi0 hz0 hzs0 hs0 hb0
  -- the first fact
  have ka : Kept w9.heap.size w9.heap.size w9 (w9.alloc (.cells d1 34)) := (Kept.refl _ _ _).alloc (Nat.le_refl _) _
  have kb : Kept w9.heap.size w9.heap.size w9 ((w9.alloc (.cells d1 34)).alloc (.cells d2 34)) := ka.alloc ka.size _
  have r1 : (w9.alloc (.cells d1 34)).heap[w9.heap.size]? = some (.cells (bcells (dg 1)).toArray 34 (0, 0)) := by rw [← D1.out]; exact heap_new _ _
  have sa : (w9.alloc (.cells d1 34)).heap.size = w9.heap.size + 1 := by simp
  have r1b : ((w9.alloc (.cells d1 34)).alloc (.cells d2 34)).heap[w9.heap.size]? = some (.cells (bcells (dg 1)).toArray 34 (0, 0)) := by rw [Below.heap_alloc _ _ _ (by omega)]; exact r1
  have r2b : ((w9.alloc (.cells d1 34)).alloc (.cells d2 34)).heap[w9.heap.size + 1]? = some (.cells (bcells (dg 2)).toArray 34 (0, 0)) := by rw [← sa, ← D2.out]; exact heap_new _ _
  have n1 := note_calls w8.heap.size bb 0 [] (fun _ => none) S0 exf1 (.slice (some ⟨w9.heap.size, 0, none⟩) 1 1) (.slice (some ⟨w9.heap.size + 1, 0, none⟩) 1 1) _ (hB0.kept kb) (Nat.le_trans b9 kb.size) (hs_one (dg_length 1) r1b) (hs_one (dg_length 2) r2b) (fun n c h => by cases h) (fun n c h => by cases h) (fun w' h => hs_one (dg_length 1) (h.oth _ _ _ _ r1b (by decide) (by decide) (by decide))) (by decide) (by decide) (fun g hg => nomatch hg) (by decide) (by decide)
  rw [show (if exf1.2.length = 0 then (1 : Int) else 0) = 0 from rfl, ex_note1] at n1
  have w2a := (ka.block _ (lt_of_block v2) (Nat.ne_of_lt (lt_of_block v2))).trans v2
  have N1 := Lib.hid n1
  have W2A := Lib.hid w2a
  have V1 := Lib.hid v1
  have V2 := Lib.hid v2
  have V3 := Lib.hid v3
  have V4 := Lib.hid v4
  have HKB := Lib.hid kb
  have HB9 := Lib.hid b9
  have HK9 := Lib.hid hK9
  have HS8 := Lib.hid s8
  clear n1 w2a v1 v2 v3 v4 ka kb b9 hK9 s8 r1 r1b r2b sa hB0
  go_upto_region 4 with (first
    | (with_reducible refine wpList_load_row rfl 34 _ rfl w.heap.size rfl 34 d1 (0, 0) _ V1.out Try.underlying34 rfl I1.out ?_)
    | (with_reducible refine wpList_build_one rfl _ 23 34 rfl i0 z0 Try.underlying23 HI0.out HZ0.out d1 rfl (by rw [HS0.out]; exact Z1.out) (by rw [HS0.out]; decide) (by rw [HS0.out]; decide) ?_)
    | (with_reducible refine wpList_load_row rfl 34 _ rfl (w.heap.size + 1) rfl 34 d2 (0, 0) _ W2A.out Try.underlying34 rfl I2.out ?_)
    | (with_reducible refine wpList_build_one rfl _ 23 34 rfl i0 z0 Try.underlying23 HI0.out HZ0.out d2 rfl (by rw [HS0.out]; exact Z2.out) (by rw [HS0.out]; decide) (by rw [HS0.out]; decide) ?_)
    | (go_at_call 64; refine N1.out.mono ?_; rintro e w10 ⟨rfl, ⟨n1, hn1, S1, hB1⟩, f1⟩))
  have up : ∀ {g : Nat} {cs : Array Value}, w9.heap[g]? = some (.cells cs 34 (0, 0)) → w10.heap[g]? = some (.cells cs 34 (0, 0)) := fun h => f1.oth _ _ _ _ ((HKB.out.block _ (lt_of_block h) (Nat.ne_of_lt (lt_of_block h))).trans h) (by decide) (by decide) (by decide)
  have v1 := up V1.out
  have v2 := up V2.out
  have v3 := up V3.out
  have v4 := up V4.out
  have b10 : w8.heap.size ≤ w10.heap.size := Nat.le_trans (Nat.le_trans HB9.out HKB.out.size) f1.kept.size
  have hK10 : Kept w.heap.size w.heap.size w w10 := (HK9.out.trans (HKB.out.mono HK9.out.size (fun k hk _ => by have := HK9.out.size; omega))).trans (f1.kept.mono HS8.out (fun k hk _ => by have := HS8.out; omega))
  clear up f1 V1 V2 V3 V4 HKB HB9 HK9 N1 W2A
  have hn1' : n1 ≤ 3 := hn1
  have ka : Kept w10.heap.size w10.heap.size w10 (w10.alloc (.cells (d2 ++ d3) 34)) := (Kept.refl _ _ _).alloc (Nat.le_refl _) _
  have kb : Kept w10.heap.size w10.heap.size w10 ((w10.alloc (.cells (d2 ++ d3) 34)).alloc (.cells d4 34)) := ka.alloc ka.size _
  have hdd : d2 ++ d3 = (bcells (dg 2) ++ bcells (dg 3)).toArray := by rw [D2.out, D3.out, List.append_toArray]
  have r1 : (w10.alloc (.cells (d2 ++ d3) 34)).heap[w10.heap.size]? = some (.cells (bcells (dg 2) ++ bcells (dg 3)).toArray 34 (0, 0)) := by rw [← hdd]; exact heap_new _ _
  have sa : (w10.alloc (.cells (d2 ++ d3) 34)).heap.size = w10.heap.size + 1 := by simp
  have r1b : ((w10.alloc (.cells (d2 ++ d3) 34)).alloc (.cells d4 34)).heap[w10.heap.size]? = some (.cells (bcells (dg 2) ++ bcells (dg 3)).toArray 34 (0, 0)) := by rw [Below.heap_alloc _ _ _ (by omega)]; exact r1
  have r2b : ((w10.alloc (.cells (d2 ++ d3) 34)).alloc (.cells d4 34)).heap[w10.heap.size + 1]? = some (.cells (bcells (dg 4)).toArray 34 (0, 0)) := by rw [← sa, ← D4.out]; exact heap_new _ _
  have n2 := note_calls w8.heap.size bb n1 [exf1] (fun _ => none) S1 exf2 (.slice (some ⟨w10.heap.size, 0, none⟩) 2 2) (.slice (some ⟨w10.heap.size + 1, 0, none⟩) 1 1) _ (hB1.kept kb) (Nat.le_trans b10 kb.size) (hs_two (dg_length 2) (dg_length 3) r1b) (hs_one (dg_length 4) r2b) (fun n c h => by cases h) (fun n c h => by cases h) (fun w' h => hs_two (dg_length 2) (dg_length 3) (h.oth _ _ _ _ r1b (by decide) (by decide) (by decide))) (by omega) (by decide) (fun g hg => by rw [List.mem_singleton.1 hg]; decide) (by decide) (by decide)
  rw [show (if exf2.2.length = 0 then (1 : Int) else 0) = 0 from rfl, ex_note2] at n2
  have w4a := (ka.block _ (lt_of_block v4) (Nat.ne_of_lt (lt_of_block v4))).trans v4
  have N2 := Lib.hid n2
  have W4A := Lib.hid w4a
  have V1 := Lib.hid v1
  have V2 := Lib.hid v2
  have V3 := Lib.hid v3
  have V4 := Lib.hid v4
  have HKB := Lib.hid kb
  have HB10 := Lib.hid b10
  have HK10 := Lib.hid hK10
  clear n2 w4a v1 v2 v3 v4 ka kb b10 hK10 r1 r1b r2b sa hB1 hdd hn1
  go_upto_region 5 with (first
    | (with_reducible refine wpList_load_row rfl 34 _ rfl (w.heap.size + 1) rfl 34 d2 (0, 0) _ V2.out Try.underlying34 rfl I2.out ?_)
    | (with_reducible refine wpList_load_row rfl 34 _ rfl (w.heap.size + 2) rfl 34 d3 (0, 0) _ V3.out Try.underlying34 rfl I3.out ?_)
    | (with_reducible refine wpList_build_two rfl _ _ 23 34 rfl i0 z0 Try.underlying23 HI0.out HZ0.out d2 d3 rfl rfl (by rw [HS0.out]; exact Z2.out) (by rw [HS0.out]; exact Z3.out) (by rw [HS0.out]; decide) (by rw [HS0.out]; decide) ?_)
    | (with_reducible refine wpList_load_row rfl 34 _ rfl (w.heap.size + 3) rfl 34 d4 (0, 0) _ W4A.out Try.underlying34 rfl I4.out ?_)
    | (with_reducible refine wpList_build_one rfl _ 23 34 rfl i0 z0 Try.underlying23 HI0.out HZ0.out d4 rfl (by rw [HS0.out]; exact Z4.out) (by rw [HS0.out]; decide) (by rw [HS0.out]; decide) ?_)
    | (go_at_call 64; refine N2.out.mono ?_; rintro e w11 ⟨rfl, ⟨n2, hn2, S2, hB2⟩, f2⟩))
  have up : ∀ {g : Nat} {cs : Array Value}, w10.heap[g]? = some (.cells cs 34 (0, 0)) → ∀ w', Kept w11.heap.size w11.heap.size w11 w' → w'.heap[g]? = some (.cells cs 34 (0, 0)) := fun h w' k => by
    have h3 := f2.oth _ _ _ _ ((HKB.out.block _ (lt_of_block h) (Nat.ne_of_lt (lt_of_block h))).trans h) (by decide) (by decide) (by decide)
    exact (k.block _ (lt_of_block h3) (Nat.ne_of_lt (lt_of_block h3))).trans h3
  have v1 := up V1.out
  have v2 := up V2.out
  have v3 := up V3.out
  have v4 := up V4.out
  have hK11 : Kept w.heap.size w.heap.size w w11 := (HK10.out.trans (HKB.out.mono HK10.out.size (fun k hk _ => by have := HK10.out.size; omega))).trans (f2.kept.mono HS8.out (fun k hk _ => by have := HS8.out; omega))
  have hn2' : n2 < 1000000 := by have : n2 ≤ n1 + 2 + 2 := hn2; omega
  clear up f2 V1 V2 V3 V4 HKB HB10 HK10 N2 W4A hn2
  have nl : Calls Try.prog 47 #[.pointer (some ⟨bb, 0, none⟩)] w11 fun e w' => e = .returned (.int .i64 2) ∧ w' = w11 := len_calls _ _ _ _ _ _ _ hB2
  have hal : ∀ (fr : List (List UInt8)) (u : Value) (w' : World), Kept w11.heap.size w11.heap.size w11 w' → Hs w' u fr → fr.length ≤ 2 → ∀ w2, Kept w'.heap.size w'.heap.size w' w2 → Calls Try.prog 66 #[.pointer (some ⟨bb, 0, none⟩), u] w2 (AllPost [exf1, exf2] fr w2) := fun fr u w' k hu hl w2 k2 => all_calls _ _ _ _ _ _ _ _ _ ((hB2.kept k).kept k2) (hu.kept k2) (by show fr.length + 2 < _; omega) hn2' (by decide) (by decide)
  have kn1 : ∀ w', Kept w11.heap.size w11.heap.size w11 w' → Calls Try.prog 18 #[.pointer (some ⟨bb, 0, none⟩), .agg d4, .slice (some ⟨w'.heap.size, 0, none⟩) 1 1] (w'.alloc (.cells d1 34)) fun e w2 => e = .returned (.bool false) ∧ Kept w'.heap.size w'.heap.size w' w2 := fun w' k => by
    have ka : Kept w'.heap.size w'.heap.size w' (w'.alloc (.cells d1 34)) := (Kept.refl _ _ _).alloc (Nat.le_refl _) _
    have hh : Hs (w'.alloc (.cells d1 34)) (.slice (some ⟨w'.heap.size, 0, none⟩) 1 1) [dg 1] := hs_one (dg_length 1) (by rw [← D1.out]; exact heap_new _ _)
    rw [D4.out]
    refine (knows_of (some ⟨bb, 0, none⟩) [exf1, exf2] [dg 1] (dg 4) (dg_length 4) _ _ (hal _ _ _ (k.trans (ka.mono k.size (fun i hi _ => by have := k.size; omega))) hh (by decide))).mono ?_
    rintro e w2 ⟨b, rfl, hb, k2⟩
    have hbf : b = false := by
      cases b with
      | false => rfl
      | true => exact absurd (hb.1 rfl) ex_not
    rw [hbf]
    exact ⟨rfl, ka.trans (k2.mono ka.size (fun i hi _ => by have := ka.size; omega))⟩
  have kn2 : ∀ w', Kept w11.heap.size w11.heap.size w11 w' → Calls Try.prog 18 #[.pointer (some ⟨bb, 0, none⟩), .agg d4, .slice (some ⟨w'.heap.size, 0, none⟩) 2 2] (w'.alloc (.cells (d1 ++ d3) 34)) fun e w2 => e = .returned (.bool true) ∧ Kept w'.heap.size w'.heap.size w' w2 := fun w' k => by
    have ka : Kept w'.heap.size w'.heap.size w' (w'.alloc (.cells (d1 ++ d3) 34)) := (Kept.refl _ _ _).alloc (Nat.le_refl _) _
    have hdd : d1 ++ d3 = (bcells (dg 1) ++ bcells (dg 3)).toArray := by rw [D1.out, D3.out, List.append_toArray]
    have hh : Hs (w'.alloc (.cells (d1 ++ d3) 34)) (.slice (some ⟨w'.heap.size, 0, none⟩) 2 2) [dg 1, dg 3] := hs_two (dg_length 1) (dg_length 3) (by rw [← hdd]; exact heap_new _ _)
    rw [D4.out]
    refine (knows_of (some ⟨bb, 0, none⟩) [exf1, exf2] [dg 1, dg 3] (dg 4) (dg_length 4) _ _ (hal _ _ _ (k.trans (ka.mono k.size (fun i hi _ => by have := k.size; omega))) hh (by decide))).mono ?_
    rintro e w2 ⟨b, rfl, hb, k2⟩
    rw [hb.2 ex_four]
    exact ⟨rfl, ka.trans (k2.mono ka.size (fun i hi _ => by have := ka.size; omega))⟩
  have fo : ∀ w', Kept w11.heap.size w11.heap.size w11 w' → Calls Try.prog 17 #[.pointer (some ⟨bb, 0, none⟩), .slice (some ⟨w'.heap.size, 0, none⟩) 1 1] (w'.alloc (.cells d1 34)) fun e w2 => ∃ ad c, e = .returned (.slice ad 2 c) ∧ Kept w'.heap.size w'.heap.size w' w2 := fun w' k => by
    have ka : Kept w'.heap.size w'.heap.size w' (w'.alloc (.cells d1 34)) := (Kept.refl _ _ _).alloc (Nat.le_refl _) _
    have hh : Hs (w'.alloc (.cells d1 34)) (.slice (some ⟨w'.heap.size, 0, none⟩) 1 1) [dg 1] := hs_one (dg_length 1) (by rw [← D1.out]; exact heap_new _ _)
    have kk := k.trans (ka.mono k.size (fun i hi _ => by have := k.size; omega))
    refine (follows_book _ _ _ _ _ _ _ _ _ (hB2.kept kk) hh (by decide) hn2' (by decide) (by decide)).mono ?_
    rintro e w2 ⟨r, M, rfl, hM, hI, k2⟩
    obtain ⟨_, ad, _, _, c, rfl, _⟩ := hM
    rw [ex_is hI]
    exact ⟨ad, c, rfl, ka.trans (k2.mono ka.size (fun i hi _ => by have := ka.size; omega))⟩
  have NL := Lib.hid nl
  have KN1 := Lib.hid kn1
  have KN2 := Lib.hid kn2
  have FO := Lib.hid fo
  have V1 := Lib.hid v1
  have V3 := Lib.hid v3
  have V4 := Lib.hid v4
  have HK11 := Lib.hid hK11
  clear nl hal kn1 kn2 fo v1 v2 v3 v4 hK11 hB2 hn2' hn1'
  have kk0 : Kept w11.heap.size w11.heap.size w11 w11 := Kept.refl _ _ _
  go_upto_region 5 with fail
  refine wp_region_lit ?_
  refine BigFrame.wpList_want ?hwa0 ?_
  case hwa0 => kernel_rfl
  intro K hK
  go_simp
  refine hK _ _ ?_
  clear hK K
  refine BigFrame.wpList_want ?hwa1 ?_
  case hwa1 => kernel_rfl
  intro K hK
  go_simp
  refine hK _ _ ?_
  clear hK K
  refine BigFrame.wpList_want ?hwa2 ?_
  case hwa2 => kernel_rfl
  intro K hK
  go_simp
  refine hK _ _ ?_
  clear hK K
  refine BigFrame.wpList_want ?hwa3 ?_
  case hwa3 => kernel_rfl
  intro K hK
  go_simp
  refine hK _ _ ?_
  clear hK K
  refine BigFrame.wpList_want ?hwa4 ?_
  case hwa4 => kernel_rfl
  intro K hK
  go_simp
  refine hK _ _ ?_
  clear hK K
  refine BigFrame.wpList_want ?hwa5 ?_
  case hwa5 => kernel_rfl
  intro K hK
  go_simp
  refine hK _ _ ?_
  clear hK K
  refine BigFrame.wpList_want ?hwa6 ?_
  case hwa6 => kernel_rfl
  intro K hK
  go_simp
  refine hK _ _ ?_
  clear hK K
  refine BigFrame.wpList_want ?hwa7 ?_
  case hwa7 => kernel_rfl
  intro K hK
  go_simp
  refine hK _ _ ?_
  clear hK K
  refine BigFrame.wpList_want ?hwa8 ?_
  case hwa8 => kernel_rfl
  intro K hK
  go_simp
  go_at_call 47; refine NL.out.mono ?_; rintro e w12 ⟨rfl, rfl⟩
  refine hK _ _ ?_
  clear hK K
  refine BigFrame.wpList_want ?hwa9 ?_
  case hwa9 => kernel_rfl
  intro K hK
  go_simp
  refine hK _ _ ?_
  clear hK K
  refine BigFrame.wpList_want ?hwb0 ?_
  case hwb0 => kernel_rfl
  intro K hK
  go_simp
  refine hK _ _ ?_
  clear hK K
  refine BigFrame.wpList_want ?hwb1 ?_
  case hwb1 => kernel_rfl
  intro K hK
  go_simp
  refine hK _ _ ?_
  clear hK K
  refine BigFrame.wpList_want ?hwb2 ?_
  case hwb2 => kernel_rfl
  intro K hK
  go_simp
  refine hK _ _ ?_
  clear hK K
  refine wpList_load_row_g ?hwb3 34 _ rfl (w.heap.size + 3) rfl 34 d4 (0, 0) _ (V4.out _ kk0) Try.underlying34 rfl I4.out ?_
  case hwb3 => kernel_rfl
  simp only [Act.put, List.setIfInBounds_toArray, List.set_cons_zero, List.set_cons_succ]
  refine wpList_load_row_g ?hwb4 34 _ rfl (w.heap.size) rfl 34 d1 (0, 0) _ (V1.out _ kk0) Try.underlying34 rfl I1.out ?_
  case hwb4 => kernel_rfl
  simp only [Act.put, List.setIfInBounds_toArray, List.set_cons_zero, List.set_cons_succ]
  refine wpList_build_one_g ?hwb5 _ 23 34 rfl i0 z0 Try.underlying23 HI0.out HZ0.out d1 rfl (by rw [HS0.out]; exact Z1.out) (by rw [HS0.out]; decide) (by rw [HS0.out]; decide) ?_
  case hwb5 => kernel_rfl
  simp only [Act.put, List.setIfInBounds_toArray, List.set_cons_zero, List.set_cons_succ]
  refine BigFrame.wpList_want ?hwb6 ?_
  case hwb6 => kernel_rfl
  intro K hK
  go_simp
  go_at_call 18; refine (KN1.out _ kk0).mono ?_; rintro e w13 ⟨rfl, k13⟩; have kk1 := kk0.trans (k13.mono (Nat.le_refl _) (fun i hi _ => by omega))
  refine hK _ _ ?_
  clear hK K
  refine BigFrame.wpList_want ?hwb7 ?_
  case hwb7 => kernel_rfl
  intro K hK
  go_simp
  refine hK _ _ ?_
  clear hK K
  refine BigFrame.wpList_want ?hwb8 ?_
  case hwb8 => kernel_rfl
  intro K hK
  go_simp
  refine hK _ _ ?_
  clear hK K
  refine BigFrame.wpList_want ?hwb9 ?_
  case hwb9 => kernel_rfl
  intro K hK
  go_simp
  refine hK _ _ ?_
  clear hK K
  refine BigFrame.wpList_want ?hwc0 ?_
  case hwc0 => kernel_rfl
  intro K hK
  go_simp
  refine hK _ _ ?_
  clear hK K
  refine wpList_load_row_g ?hwc1 34 _ rfl (w.heap.size + 3) rfl 34 d4 (0, 0) _ (V4.out _ kk1) Try.underlying34 rfl I4.out ?_
  case hwc1 => kernel_rfl
  simp only [Act.put, List.setIfInBounds_toArray, List.set_cons_zero, List.set_cons_succ]
  refine wpList_load_row_g ?hwc2 34 _ rfl (w.heap.size) rfl 34 d1 (0, 0) _ (V1.out _ kk1) Try.underlying34 rfl I1.out ?_
  case hwc2 => kernel_rfl
  simp only [Act.put, List.setIfInBounds_toArray, List.set_cons_zero, List.set_cons_succ]
  refine wpList_load_row_g ?hwc3 34 _ rfl (w.heap.size + 2) rfl 34 d3 (0, 0) _ (V3.out _ kk1) Try.underlying34 rfl I3.out ?_
  case hwc3 => kernel_rfl
  simp only [Act.put, List.setIfInBounds_toArray, List.set_cons_zero, List.set_cons_succ]
  refine wpList_build_two_g ?hwc4 _ _ 23 34 rfl i0 z0 Try.underlying23 HI0.out HZ0.out d1 d3 rfl rfl (by rw [HS0.out]; exact Z1.out) (by rw [HS0.out]; exact Z3.out) (by rw [HS0.out]; decide) (by rw [HS0.out]; decide) ?_
  case hwc4 => kernel_rfl
  simp only [Act.put, List.setIfInBounds_toArray, List.set_cons_zero, List.set_cons_succ]
  refine BigFrame.wpList_want ?hwc5 ?_
  case hwc5 => kernel_rfl
  intro K hK
  go_simp
  go_at_call 18; refine (KN2.out _ kk1).mono ?_; rintro e w14 ⟨rfl, k14⟩; have kk2 := kk1.trans (k14.mono kk1.size (fun i hi _ => by have := kk1.size; omega))
  refine hK _ _ ?_
  clear hK K
  refine BigFrame.wpList_want ?hwc6 ?_
  case hwc6 => kernel_rfl
  intro K hK
  go_simp
  refine hK _ _ ?_
  clear hK K
  refine BigFrame.wpList_want ?hwc7 ?_
  case hwc7 => kernel_rfl
  intro K hK
  go_simp
  refine hK _ _ ?_
  clear hK K
  refine BigFrame.wpList_want ?hwc8 ?_
  case hwc8 => kernel_rfl
  intro K hK
  go_simp
  refine hK _ _ ?_
  clear hK K
  refine wpList_load_row_g ?hwc9 34 _ rfl (w.heap.size) rfl 34 d1 (0, 0) _ (V1.out _ kk2) Try.underlying34 rfl I1.out ?_
  case hwc9 => kernel_rfl
  simp only [Act.put, List.setIfInBounds_toArray, List.set_cons_zero, List.set_cons_succ]
  refine wpList_build_one_g ?hwd0 _ 23 34 rfl i0 z0 Try.underlying23 HI0.out HZ0.out d1 rfl (by rw [HS0.out]; exact Z1.out) (by rw [HS0.out]; decide) (by rw [HS0.out]; decide) ?_
  case hwd0 => kernel_rfl
  simp only [Act.put, List.setIfInBounds_toArray, List.set_cons_zero, List.set_cons_succ]
  refine BigFrame.wpList_want ?hwd1 ?_
  case hwd1 => kernel_rfl
  intro K hK
  go_simp
  go_at_call 17; refine (FO.out _ kk2).mono ?_; rintro e w15 ⟨ad, c, rfl, k15⟩; have kk3 := kk2.trans (k15.mono kk2.size (fun i hi _ => by have := kk2.size; omega))
  refine hK _ _ ?_
  clear hK K
  refine BigFrame.wpList_want ?hwd2 ?_
  case hwd2 => kernel_rfl
  intro K hK
  go_simp
  refine hK _ _ ?_
  clear hK K
  refine BigFrame.wpList_want ?hwd3 ?_
  case hwd3 => kernel_rfl
  intro K hK
  go_simp
  refine hK _ _ ?_
  clear hK K
  refine BigFrame.wpList_want ?hwd4 ?_
  case hwd4 => kernel_rfl
  intro K hK
  go_simp
  refine hK _ _ ?_
  clear hK K
  refine BigFrame.wpList_want ?hwd5 ?_
  case hwd5 => kernel_rfl
  intro K hK
  go_simp
  refine hK _ _ ?_
  clear hK K
  go_wp2
  go_ret
  exact ⟨rfl, HK11.out.trans (kk3.mono HK11.out.size (fun k hk _ => by have := HK11.out.size; omega))⟩

end Go.Proofs.Ytdedookpdnbdiaa
