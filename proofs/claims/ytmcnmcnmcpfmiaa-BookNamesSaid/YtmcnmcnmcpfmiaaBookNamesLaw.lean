/-
  The walk of the statement BookNames: a name names what it was given last, and nothing else.
-/
import Derived.Test.YtmcnmcnmcpfmiaaGH
import Derived.Test.YtmcnmcnmcpfmiaaGG
import Derived.Test.YtmcnmcnmcpfmiaaGD
import Derived.Test.YtmcnmcnmcpfmiaaGA

namespace Go.Proofs.Ytmcnmcnmcpfmiaa
open Go.RowKit Go.Lib

theorem hashInfoZ : (Try.prog.info? 39).map (·.size) = some zeros32.size := by rw [zeros32_size]; kernel_rfl
noncomputable def namesOf (L : List (ByteArray × List UInt8)) : Lit → Option Value := L.foldl (fun f x => upd f (.string x.1.data.toList) (.agg (bcells x.2).toArray)) fun _ => none
theorem namesOf_more (L : List (ByteArray × List UInt8)) (k : Nat) (h : k < L.length) : namesOf (L.take (k + 1)) = upd (namesOf (L.take k)) (.string L[k].1.data.toList) (.agg (bcells L[k].2).toArray) := by
  rw [List.take_succ_eq_append_getElem h, namesOf, namesOf, List.foldl_append]
  rfl
/-- An empty book stays where a digest of another's is written over. -/
theorem Bok.setRow0 {w : World} {base bb b : Nat} {nmf : Lit → Option Value} {S : BokS} (h : Bok w base bb [] b nmf S) {g : Nat} {cs ds : Array Value} (hg : w.heap[g]? = some (.cells cs 39 (0, 0))) : Bok (w.setRow g ds) base bb [] b nmf S := by
  have hc : ∀ (i : Nat) (cs2 : Array Value) (t : TypeId) (fr : Nat × Nat), t ≠ 39 → w.heap[i]? = some (.cells cs2 t fr) → (w.setRow g ds).heap[i]? = w.heap[i]? := fun i cs2 t fr ht hh => setRow_other w g i ds (fun e => by
    subst e
    rw [hg] at hh
    injection hh with hh
    injection hh with _ h2 _
    exact ht h2.symm)
  have hm : ∀ {i : Nat}, (∃ es c, w.heap[i]? = some (.map es c)) → (w.setRow g ds).heap[i]? = w.heap[i]? := fun {i} ⟨es, c, hh⟩ => setRow_other w g i ds (fun e => by
    subst e
    rw [hg] at hh
    cases hh)
  refine ⟨(hc _ _ _ _ (by decide) h.cells).trans h.cells, h.lowb, h.lowa, h.lown, h.lowm, h.an, h.amm, h.nmm, ?_, h.alike.same (hm h.alike.map), h.need.same (hm h.need.map), h.names.same (hm h.names.map), fun o => (h.row o).stay fun i hi => ?_, h.sep, h.free, h.needed, h.same, h.found, h.few⟩
  · obtain ⟨ps, hl, ho, hp⟩ := h.facts
    refine ⟨ps, hl, ⟨ho.1, ?_⟩, fun i hi => absurd hi (Nat.not_lt_zero _)⟩
    rcases ho.2 with h1 | ⟨g2, cap, cur, e1, hb2, hh, rest⟩
    · exact .inl h1
    · exact .inr ⟨g2, cap, cur, e1, hb2, (hc _ _ _ _ (by decide) hh).trans hh, rest⟩
  · obtain ⟨cs2, hh⟩ := (h.row o).cellsAt i hi
    exact hc _ _ _ _ (by decide) hh

/-- What stands for the asked name so far. -/
def Asked (w : World) (wb : Nat) (o : Option Value) : Prop := ∃ l : List UInt8, l.length = 32 ∧ o.getD (.agg zeros32) = .agg (bcells l).toArray ∧ w.heap[wb]? = some (.cells (bcells l).toArray 39 (0, 0))

set_option maxRecDepth 100000 in
set_option maxHeartbeats 3200000 in
theorem booknames_walk (L : List (ByteArray × List UInt8)) (v : Value) (al : List UInt8) (hask : (str al).size ≤ 281474976710656) (w : World) (hL : Ns w v L) (hbig : ∀ x ∈ L, x.1.size ≤ 281474976710656) : Calls Try.prog 6 #[v, .string (str al)] w fun e w' => e = .returned (.bool true) ∧ Kept w.heap.size w.heap.size w w' := by
  obtain ⟨hel, ad, g, o, c, rfl, hcell⟩ := hL
  have haw := awake_calls
  have HAW := Lib.hid haw
  have HC := Lib.hid hcell
  have HEL := Lib.hid hel
  have HBIG := Lib.hid hbig
  have HASK := Lib.hid hask
  have gd := macGuard25
  clear haw hcell hel hask hbig
  go_enter Try.func6, Try.ntmps6
  by_cases hz : 1000 < L.length
  · have hd : decide ((1000 : Int) < (L.length : Int)) = true := decide_eq_true (by omega)
    go_wp2_with fail
    refine (HAW.out _).mono ?_
    rintro e w1 ⟨rfl, k1⟩
    go_wp2_with fail
    refine (HAW.out _).mono ?_
    rintro e w2 ⟨rfl, k2⟩
    go_wp2
    go_ret
    exact ⟨rfl, k1.trans (k2.mono k1.size (fun i hi _ => by have := k1.size; omega))⟩
  have hd : decide ((1000 : Int) < (L.length : Int)) = false := decide_eq_false (by omega)
  have hL1000 : L.length ≤ 1000 := by omega
  clear hz
  go_wp2_with fail
  refine (HAW.out _).mono ?_
  rintro e w1 ⟨rfl, k1⟩
  have hnew := new_book w1
  have HNEW := Lib.hid hnew
  clear hnew
  go_wp2_with fail
  refine HNEW.out.mono ?_
  rintro e w2 ⟨bb, S0, rfl, hB0, k2⟩
  go_upto_region 4 with fail
  refine wp_region_lit ?_
  refine wpList_build_known rfl 39 rfl (build_zero _) ?_
  simp only [Act.put, List.setIfInBounds_toArray, List.set_cons_zero, List.set_cons_succ]
  refine wpList_alloc_k rfl 39 rfl (alloc_zero _) ?_
  simp only [Act.put, List.setIfInBounds_toArray, List.set_cons_zero, List.set_cons_succ]
  have K2 : Kept w.heap.size w.heap.size w w2 := k1.trans (k2.mono k1.size (fun i hi _ => by have := k1.size; omega))
  have K3 : Kept w.heap.size w.heap.size w (w2.alloc (.cells zeros32 39)) := K2.alloc K2.size _
  have hB1 : Bok (w2.alloc (.cells zeros32 39)) w1.heap.size bb [] 0 (fun _ => none) S0 := hB0.kept ((Kept.refl _ _ _).alloc (Nat.le_refl _) _)
  have hwb : (w2.alloc (.cells zeros32 39)).heap[w2.heap.size]? = some (.cells zeros32 39 (0, 0)) := heap_new _ _
  refine wpList_store_row rfl 39 _ _ rfl w2.heap.size zeros32 rfl rfl 39 zeros32 hwb hashInfoZ rfl zeros32_one ?_
  simp only [Act.put]
  have K4 : Kept w.heap.size w.heap.size w ((w2.alloc (.cells zeros32 39)).setRow w2.heap.size zeros32) := Kept.ofBelow (below_setRow (K3.below (Nat.le_refl _) (Nat.le_refl _)) K2.size zeros32) (Nat.le_refl _)
  have hB4 := hB1.setRow0 (ds := zeros32) hwb
  have hA4 := setRow_heap _ w2.heap.size zeros32 zeros32 _ _ hwb
  have hwl : w.heap.size ≤ w2.heap.size := K2.size
  have hw1 : w1.heap.size ≤ w2.heap.size := k2.size
  have hw01 : w.heap.size ≤ w1.heap.size := k1.size
  generalize (w2.alloc (.cells zeros32 39)).setRow w2.heap.size zeros32 = w4 at K4 hB4 hA4 ⊢
  generalize w2.heap.size = wb at hA4 hwl hw1 ⊢
  generalize hW1 : w1.heap.size = base at hB4 hw1 hw01
  have HB4 := Lib.hid hB4
  have HA4 := Lib.hid hA4
  have HK4 := Lib.hid K4
  have HW01 := Lib.hid hw01
  have HWB1 := Lib.hid hw1
  clear hB4 hA4 K4 K3 K2 hB1 hwb hB0 k1 k2 hW1 HNEW hw01 hw1
  go_wp2_with fail
  go_loopw [7, 8] (fun is i w9 => ∃ k : Nat, k ≤ L.length ∧ i = .int .i64 (k : Int) ∧ is = .bool (namesOf (L.take k) (.string al)).isSome ∧ Hid (∃ S, Bok w9 base bb [] k (namesOf (L.take k)) S) ∧ Hid (Asked w9 wb (namesOf (L.take k) (.string al))) ∧ Hid (Kept w.heap.size w.heap.size w w9)) (fun _ i _ => L.length - (RowKit.intOf i).toNat)
  case atStart => exact ⟨0, by omega, rfl, rfl, Lib.hid ⟨S0, HB4.out⟩, Lib.hid ⟨List.replicate 32 0, rfl, rfl, HA4.out⟩, HK4⟩
  case round =>
    obtain ⟨k, hk, rfl, rfl, hB, hA, hK⟩ := hrel
    by_cases hlt : k < L.length
    · obtain ⟨rfl, hg, hc0, hc1⟩ := HC.out k hlt
      have hx32 := (HEL.out L[k] (List.getElem_mem hlt)).1
      have hxs := HBIG.out L[k] (List.getElem_mem hlt)
      have hln : (k : Int) < (L.length : Int) := by omega
      have hk0 : ¬ (k : Int) < 0 := by omega
      have hmore := namesOf_more L k hlt
      generalize hX : L[k] = X at hc0 hc1 hx32 hxs hmore
      obtain ⟨S, l⟩ := X
      generalize namesOf (L.take k) = nm at hB hA hmore
      simp only at hc0 hc1 hx32 hxs hmore
      obtain ⟨sl, rfl⟩ : ∃ sl, S = str sl := ⟨S.data.toList, (str_of S).symm⟩
      change namesOf (L.take (k + 1)) = upd nm (.string sl) (.agg (bcells l).toArray) at hmore
      have hcr : wr.cell? ⟨g, o + k * 33, none⟩ = some (.string (str sl)) := (hK.out.cell (p := ⟨g, o + k * 33, none⟩) hg (Nat.ne_of_lt hg)).trans hc0
      have hrr : wr.rangeAt g (o + k * 33 + 1) (bcells l) := rangeAt_kept hK.out hc1 hg (Nat.ne_of_lt hg)
      have hxl : (Try.prog.info? 39).map (·.size) = some (bcells l).length := by rw [bcells_length, hx32]; kernel_rfl
      have hcs : (bcells l).toArray.size = 32 := by rw [List.size_toArray, bcells_length, hx32]
      have hbase := Nat.le_trans HW01.out (Nat.le_refl _)
      have hbk : base ≤ wr.heap.size := by
        obtain ⟨S2, h2⟩ := hB.out
        have := lt_of_block h2.cells
        have := h2.lowb
        omega
      have hname : ∀ w', Kept wr.heap.size wr.heap.size wr w' → Calls Try.prog 27 #[.pointer (some ⟨bb, 0, none⟩), .string (str sl), .agg (bcells l).toArray] w' fun e w2 => e = .returned (.tuple #[]) ∧ (∃ S2, Bok w2 base bb [] (k + 1) (namesOf (L.take (k + 1))) S2) ∧ BkFr base w' w2 := fun w' kk => by
        obtain ⟨S2, h2⟩ := hB.out
        rw [hmore]
        refine (name_calls base bb k [] nm S2 (str sl) hxs l hx32 w' (h2.kept kk) (Nat.le_trans hbk kk.size) (by omega)).mono ?_
        rintro e w2 ⟨h1, h3, h4⟩
        exact ⟨h1, ⟨S2, h3⟩, h4⟩
      have HN := Lib.hid hname
      have HXL := Lib.hid hxl
      have HBK := Lib.hid hbk
      have HM := Lib.hid hmore
      have H32 := Lib.hid hx32
      have HCS := Lib.hid hcs
      have HC0 := Lib.hid hc0
      have HC1 := Lib.hid hc1
      clear hname hxl hbk hmore hx32 hcs hc0 hc1 hX hxs hbase
      go_upto_region 8 with fail
      refine wp_region_still_tail 11 (by kernel_rfl) (by kernel_rfl) ?_
      simp only [List.take_succ_cons, List.take_zero, List.drop_succ_cons, List.drop_zero]
      generalize hw9 : ({ heap := wr.heap, tape := wr.tape, drawn := wr.drawn + 1, os := wr.os, output := wr.output } : World) = wd
      have d0 : wd.cell? ⟨g, o + k * 33, none⟩ = some (.string (str sl)) := by rw [← hw9]; exact hcr
      have d1 : wd.rangeAt g (o + k * 33 + 1) (bcells l) := by rw [← hw9]; exact hrr
      have kd : Kept wr.heap.size wr.heap.size wr wd := by rw [← hw9]; exact (Kept.refl _ _ _).drew
      have D1 := Lib.hid d1
      have KD := Lib.hid kd
      clear hw9 hcr hrr d1 kd
      iterate 10 still_step
      refine wpStill_load_at (by rfl) 39 _ rfl g (o + k * 33 + 1) rfl (bcells l) _ D1.out Try.underlying39 rfl HXL.out ?_
      simp only [Act.put, List.setIfInBounds_toArray, List.set_cons_zero, List.set_cons_succ]
      refine wpStill_nil ?_
      refine BigFrame.wpList_want ?hwa0 ?_
      case hwa0 => kernel_rfl
      intro K hK
      go_simp
      go_at_call 27; refine (HN.out _ KD.out).mono ?_; rintro e w5 ⟨rfl, hB5, f5⟩
      refine hK _ _ ?_
      clear hK K
      have HB5 := Lib.hid hB5
      have hK5 : Kept w.heap.size w.heap.size w w5 := (hK.out.trans (KD.out.mono hK.out.size (fun i hi _ => by have := hK.out.size; omega))).trans (f5.kept.mono HW01.out (fun i hi _ => by have := HW01.out; omega))
      have hA5 : Asked w5 wb (nm (.string al)) := by
        obtain ⟨m, hm, he, hh⟩ := hA.out
        exact ⟨m, hm, he, f5.oth _ _ _ _ ((KD.out.block _ (lt_of_block hh) (Nat.ne_of_lt (lt_of_block hh))).trans hh) (by decide) (by decide) (by decide)⟩
      have c5 : w5.cell? ⟨g, o + k * 33, none⟩ = some (.string (str sl)) := (hK5.cell (p := ⟨g, o + k * 33, none⟩) hg (Nat.ne_of_lt hg)).trans HC0.out
      have r5 : w5.rangeAt g (o + k * 33 + 1) (bcells l) := rangeAt_kept hK5 HC1.out hg (Nat.ne_of_lt hg)
      have HK5 := Lib.hid hK5
      have HA5 := Lib.hid hA5
      have HR5 := Lib.hid r5
      clear d0 hB5 f5 hK5 hA5 r5
      go_upto_region 9 with fail
      refine wp_region_lit ?_
      refine BigFrame.wpList_want ?hwb0 ?_
      case hwb0 => kernel_rfl
      intro K hK
      go_simp
      refine hK _ _ ?_
      clear hK K
      refine BigFrame.wpList_want ?hwb1 ?_
      case hwb1 => kernel_rfl
      intro K hK
      go_simp
      refine hK _ _ ?_
      clear hK K
      refine BigFrame.wpList_want ?hwb2 ?_
      case hwb2 => kernel_rfl
      intro K hK
      go_simp
      refine hK _ _ ?_
      clear hK K
      refine BigFrame.wpList_want ?hwb3 ?_
      case hwb3 => kernel_rfl
      intro K hK
      go_simp
      refine hK _ _ ?_
      clear hK K
      refine BigFrame.wpList_want ?hwb4 ?_
      case hwb4 => kernel_rfl
      intro K hK
      go_simp
      refine hK _ _ ?_
      clear hK K
      refine BigFrame.wpList_want ?hwb5 ?_
      case hwb5 => kernel_rfl
      intro K hK
      go_simp
      refine hK _ _ ?_
      clear hK K
      refine BigFrame.wpList_want ?hwb6 ?_
      case hwb6 => kernel_rfl
      intro K hK
      go_simp
      refine hK _ _ ?_
      clear hK K
      generalize hq : (sl == al) = q
      cases q with
      | true =>
        obtain rfl : sl = al := eq_of_beq hq
        have hsome : (namesOf (L.take (k + 1)) (.string sl)) = some (.agg (bcells l).toArray) := by rw [HM.out, upd_same]
        obtain ⟨m, hm32, hme, hmh⟩ := HA5.out
        have hms : (bcells m).toArray.size = (bcells l).toArray.size := by rw [HCS.out, List.size_toArray, bcells_length, hm32]
        have hia : (Try.prog.info? 39).map (·.size) = some (bcells l).toArray.size := by rw [HCS.out]; kernel_rfl
        have hB6 : ∃ S2, Bok (w5.setRow wb (bcells l).toArray) base bb [] (k + 1) (namesOf (L.take (k + 1))) S2 := by
          obtain ⟨S2, h2⟩ := HB5.out
          exact ⟨S2, h2.setRow0 hmh⟩
        have hA6 : Asked (w5.setRow wb (bcells l).toArray) wb (namesOf (L.take (k + 1)) (.string sl)) := ⟨l, H32.out, by rw [hsome]; rfl, setRow_heap w5 wb _ _ _ _ hmh⟩
        have hK6 : Kept w.heap.size w.heap.size w (w5.setRow wb (bcells l).toArray) := Kept.ofBelow (below_setRow (HK5.out.below (Nat.le_refl _) (Nat.le_refl _)) hwl _) (Nat.le_refl _)
        have hall := bcells_all l
        have c1 := hsome
        have HB6 := Lib.hid hB6
        have HA6 := Lib.hid hA6
        have HK6 := Lib.hid hK6
        have HALL := Lib.hid hall
        have HIA := Lib.hid hia
        have HMH := Lib.hid hmh
        have HMS := Lib.hid hms
        have HSOME := Lib.hid hsome
        clear hB6 hA6 hK6 hall hia hmh hms hsome c1 hq hme hm32
        go_wp2_with (first
          | (with_reducible refine wpList_load_mid rfl 39 _ rfl g (o + k * 33 + 1) rfl (bcells l) _ HR5.out Try.underlying39 rfl HXL.out ?_)
          | (with_reducible refine wpList_store_row rfl 39 _ _ rfl wb (bcells l).toArray rfl rfl 39 (bcells m).toArray HMH.out HIA.out HMS.out HALL.out ?_))
        exact ⟨⟨k + 1, by omega, by rw [Int.natCast_add]; rfl, by rw [HSOME.out]; rfl, HB6, HA6, HK6⟩, by simp only [RowKit.intOf]; omega⟩
      | false =>
        have hne : sl ≠ al := fun e => by
          subst e
          simp at hq
        have hsame : namesOf (L.take (k + 1)) (.string al) = nm (.string al) := by rw [HM.out, upd_other _ _ (fun e => hne (by cases e; rfl))]
        have HSAME := Lib.hid hsame
        have HA6 := Lib.hid (show Asked w5 wb (namesOf (L.take (k + 1)) (.string al)) by rw [hsame]; exact HA5.out)
        clear hsame hne hq
        go_wp2_with fail
        exact ⟨⟨k + 1, by omega, by rw [Int.natCast_add]; rfl, by rw [HSAME.out], HB5, HA6, HK5⟩, by simp only [RowKit.intOf]; omega⟩
    · obtain rfl : k = L.length := by omega
      have hd3 : decide ((L.length : Int) < (L.length : Int)) = false := decide_eq_false (by omega)
      rw [List.take_of_length_le (Nat.le_refl _)] at hB hA
      have htk : namesOf (L.take L.length) = namesOf L := by rw [List.take_of_length_le (Nat.le_refl _)]
      rw [htk]
      obtain ⟨S2, hB2⟩ := hB.out
      obtain ⟨m, hm32, hme, hmh⟩ := hA.out
      have hnd := named_calls base bb L.length [] (namesOf L) S2 (str al) HASK.out (bcells m).toArray hme (by rw [List.size_toArray, bcells_length, hm32]) (bcells_all m) wr hB2
      have hle : ∀ w', Kept wr.heap.size wr.heap.size wr w' → Calls Try.prog 29 #[.pointer (some ⟨bb, 0, none⟩)] w' fun e w2 => e = .returned (.int .i64 (0 : Nat)) ∧ w2 = w' := fun w' kk => len_calls _ _ _ _ _ _ _ (hB2.kept kk)
      have hia : (Try.prog.info? 39).map (·.size) = some (bcells m).toArray.size := by rw [List.size_toArray, bcells_length, hm32]; kernel_rfl
      have hmz : zeros32.size = (bcells m).toArray.size := by rw [zeros32_size, List.size_toArray, bcells_length, hm32]
      have heq := fun w => mac_equalIn w m hm32
      have hall := bcells_all m
      generalize (bcells m).toArray = D at hnd hia hmz heq hall hmh
      change Calls Try.prog 28 #[.pointer (some ⟨bb, 0, none⟩), .string (str al)] wr (fun e w' => e = .returned (.tuple #[.agg D, .bool (namesOf L (.string al)).isSome]) ∧ Kept wr.heap.size wr.heap.size wr w') at hnd
      generalize (namesOf L (.string al)).isSome = is at hnd ⊢
      have hrow : ∀ w', Kept wr.heap.size wr.heap.size wr w' → w'.heap[wb]? = some (.cells D 39 (0, 0)) := fun w' kk => (kk.block _ (lt_of_block hmh) (Nat.ne_of_lt (lt_of_block hmh))).trans hmh
      have HND := Lib.hid hnd
      have HLE := Lib.hid hle
      have HIA := Lib.hid hia
      have HMZ := Lib.hid hmz
      have HALL := Lib.hid hall
      have HROW := Lib.hid hrow
      clear hnd hle hia hmz hall hB2 hB hA hme hm32 hmh htk hrow
      go_upto_region 11 with fail
      refine wp_region_lit ?_
      refine BigFrame.wpList_want ?hwd0 ?_
      case hwd0 => kernel_rfl
      intro K hK
      go_simp
      refine hK _ _ ?_
      clear hK K
      refine BigFrame.wpList_want ?hwd1 ?_
      case hwd1 => kernel_rfl
      intro K hK
      go_simp
      refine hK _ _ ?_
      clear hK K
      refine BigFrame.wpList_want ?hwd2 ?_
      case hwd2 => kernel_rfl
      intro K hK
      go_simp
      go_at_call 28; refine HND.out.mono ?_; rintro e w5 ⟨rfl, k5⟩
      refine hK _ _ ?_
      clear hK K
      refine BigFrame.wpList_want ?hwd3 ?_
      case hwd3 => kernel_rfl
      intro K hK
      go_simp
      refine hK _ _ ?_
      clear hK K
      refine BigFrame.wpList_want ?hwd4 ?_
      case hwd4 => kernel_rfl
      intro K hK
      go_simp
      refine hK _ _ ?_
      clear hK K
      refine BigFrame.wpList_want ?hwd5 ?_
      case hwd5 => kernel_rfl
      intro K hK
      go_simp
      refine hK _ _ ?_
      clear hK K
      refine wpList_alloc_k rfl 39 rfl (alloc_zero _) ?_
      simp only [Act.put, List.setIfInBounds_toArray, List.set_cons_zero, List.set_cons_succ]
      have K5 : Kept wr.heap.size wr.heap.size wr (w5.alloc (.cells zeros32 39)) := k5.alloc k5.size _
      refine wpList_store_row rfl 39 _ _ rfl w5.heap.size D rfl rfl 39 zeros32 (heap_new _ _) HIA.out HMZ.out HALL.out ?_
      simp only [Act.put]
      have K6 : Kept wr.heap.size wr.heap.size wr ((w5.alloc (.cells zeros32 39)).setRow w5.heap.size D) := Kept.ofBelow (below_setRow (K5.below (Nat.le_refl _) (Nat.le_refl _)) k5.size D) (Nat.le_refl _)
      have r6 := setRow_heap (w5.alloc (.cells zeros32 39)) w5.heap.size zeros32 D _ _ (heap_new _ _)
      generalize (w5.alloc (.cells zeros32 39)).setRow w5.heap.size D = w6 at K6 r6 ⊢
      have r7 := HROW.out w6 K6
      generalize w5.heap.size = wn at r6 ⊢
      have R6 := Lib.hid r6
      have R7 := Lib.hid r7
      have HK6 := Lib.hid K6
      clear r6 r7 K5 k5
      refine BigFrame.wpList_want ?hwd8 ?_
      case hwd8 => kernel_rfl
      intro K hK
      go_simp
      refine hK _ _ ?_
      clear hK K
      go_upto_region 12 with fail
      refine wp_region_lit ?_
      refine BigFrame.wpList_want ?hwe0 ?_
      case hwe0 => kernel_rfl
      intro K hK
      go_simp
      refine hK _ _ ?_
      clear hK K
      refine BigFrame.wpList_want ?hwe1 ?_
      case hwe1 => kernel_rfl
      intro K hK
      go_simp
      refine hK _ _ ?_
      clear hK K
      refine BigFrame.wpList_want ?hwe2 ?_
      case hwe2 => kernel_rfl
      intro K hK
      go_simp
      refine hK _ _ ?_
      clear hK K
      refine BigFrame.wpList_want ?hwe3 ?_
      case hwe3 => kernel_rfl
      intro K hK
      go_simp
      refine hK _ _ ?_
      clear hK K
      refine wpList_load_row_g ?hwe4 39 _ rfl wn rfl 39 D (0, 0) _ R6.out Try.underlying39 rfl HIA.out ?_
      case hwe4 => kernel_rfl
      simp only [Act.put, List.setIfInBounds_toArray, List.set_cons_zero, List.set_cons_succ]
      refine wpList_load_row_g ?hwe5 39 _ rfl wb rfl 39 D (0, 0) _ R7.out Try.underlying39 rfl HIA.out ?_
      case hwe5 => kernel_rfl
      simp only [Act.put, List.setIfInBounds_toArray, List.set_cons_zero, List.set_cons_succ]
      refine BigFrame.wpList_want ?hwe6 ?_
      case hwe6 => kernel_rfl
      intro K hK
      go_simp
      refine hK _ _ ?_
      clear hK K
      refine BigFrame.wpList_want ?hwe7 ?_
      case hwe7 => kernel_rfl
      intro K hK
      go_simp
      refine hK _ _ ?_
      clear hK K
      refine BigFrame.wpList_want ?hwe8 ?_
      case hwe8 => kernel_rfl
      intro K hK
      go_simp
      refine hK _ _ ?_
      clear hK K
      refine BigFrame.wpList_want ?hwe9 ?_
      case hwe9 => kernel_rfl
      intro K hK
      go_simp
      refine hK _ _ ?_
      clear hK K
      refine BigFrame.wpList_want ?hwf0 ?_
      case hwf0 => kernel_rfl
      intro K hK
      go_simp
      go_at_call 29; refine (HLE.out _ HK6.out).mono ?_; rintro e w7 ⟨rfl, rfl⟩
      refine hK _ _ ?_
      clear hK K
      refine BigFrame.wpList_want ?hwf1 ?_
      case hwf1 => kernel_rfl
      intro K hK
      go_simp
      refine hK _ _ ?_
      clear hK K
      refine BigFrame.wpList_want ?hwf2 ?_
      case hwf2 => kernel_rfl
      intro K hK
      go_simp
      refine hK _ _ ?_
      clear hK K
      refine BigFrame.wpList_want ?hwf3 ?_
      case hwf3 => kernel_rfl
      intro K hK
      go_simp
      refine hK _ _ ?_
      clear hK K
      go_wp2
      go_ret
      exact ⟨rfl, hK.out.trans (HK6.out.mono hK.out.size (fun i hi _ => by have := hK.out.size; omega))⟩

end Go.Proofs.Ytmcnmcnmcpfmiaa
