/-
  KeyBook; BuildMany; KeyList: several texts in one.
-/
import Derived.Test.YtdfbmijbmlainaaDoorKC
import Derived.Test.YtdfbmijbmlainaaDoorKB
import Derived.Test.YtdfbmijbmlainaaDoorGP
import Derived.Test.YtdfbmijbmlainaaDoorGH
import Derived.Test.YtdfbmijbmlainaaDoorGD

namespace Go.Proofs.YtdfbmijbmlainaaDoor
open Go.RowKit Go.Lib

/-- What isn't there yet, beside what is in none of its blocks. -/
theorem OwnB.freshOr {w : World} {base : Nat} {X Y : Nat → Prop} {v : Value} {L : List (List (List UInt8) × List (List UInt8))} (h : OwnB w base X v L) (hY : ∀ k, Y k → w.heap.size ≤ k) : OwnB w base (fun k => X k ∨ Y k) v L := by
  obtain ⟨ps, hl, ho, hp⟩ := h
  refine ⟨ps, hl, ho, fun i hi hpi => ?_⟩
  obtain ⟨p, q, xp, xq⟩ := hp i hi hpi
  exact ⟨p, q, fun k hk hy => hy.elim (xp k hk) fun hy => absurd (p.low k hk).2 (Nat.not_lt.2 (hY k hy)), fun k hk hy => hy.elim (xq k hk) fun hy => absurd (q.low k hk).2 (Nat.not_lt.2 (hY k hy))⟩
theorem InBk.freshOr {w : World} {base bb n : Nat} {fs : Facts} {X : Nat → Prop} (h : InBk w base bb fs n X) (Y : Nat → Prop) (hY : ∀ k, Y k → w.heap.size ≤ k) : InBk w base bb fs n (fun k => X k ∨ Y k) := by
  obtain ⟨n', h1, S, h2, h⟩ := h
  refine ⟨n', h1, { S with X := fun k => X k ∨ Y k }, rfl, ?_⟩
  have hf := h.facts
  rw [h2] at hf
  exact ⟨h.cells, h.lowb, h.lowa, h.lown, h.lowm, h.an, h.amm, h.nmm, hf.freshOr hY, h.alike, h.need, h.names, h.row, h.sep, h.free, h.needed, h.same, h.found, h.few⟩
theorem OwnB.less {w : World} {base : Nat} {X Y : Nat → Prop} {v : Value} {L : List (List (List UInt8) × List (List UInt8))} (h : OwnB w base X v L) (hY : ∀ k, Y k → X k) : OwnB w base Y v L := by
  obtain ⟨ps, hl, ho, hp⟩ := h
  refine ⟨ps, hl, ho, fun i hi hpi => ?_⟩
  obtain ⟨p, q, xp, xq⟩ := hp i hi hpi
  exact ⟨p, q, fun k hk hy => xp k hk (hY k hy), fun k hk hy => xq k hk (hY k hy)⟩
theorem InBk.less {w : World} {base bb n : Nat} {fs : Facts} {X : Nat → Prop} (h : InBk w base bb fs n X) (Y : Nat → Prop) (hY : ∀ k, Y k → X k) : InBk w base bb fs n Y := by
  obtain ⟨n', h1, S, h2, h⟩ := h
  refine ⟨n', h1, { S with X := Y }, rfl, ?_⟩
  have hf := h.facts
  rw [h2] at hf
  exact ⟨h.cells, h.lowb, h.lowa, h.lown, h.lowm, h.an, h.amm, h.nmm, hf.less hY, h.alike, h.need, h.names, h.row, h.sep, h.free, h.needed, h.same, h.found, h.few⟩
/-- A book stays where a row of secrets turns. -/
theorem Bok.sec {w w' : World} {base bb b : Nat} {fs : List (List (List UInt8) × List (List UInt8))} {nmf : Lit → Option Value} {S : BokS} (h : Bok w base bb fs b nmf S) {g : Nat} {old : Array Value} (hold : w.heap[g]? = some (.cells old 26 (0, 0))) (ho : ∀ i, i ≠ g → w'.heap[i]? = w.heap[i]?) : Bok w' base bb fs b nmf S := by
  have hc : ∀ (i : Nat) (cs : Array Value) (t : TypeId) (fr : Nat × Nat), t ≠ 26 → w.heap[i]? = some (.cells cs t fr) → w'.heap[i]? = some (.cells cs t fr) := fun i cs t fr ht hh => by
    rw [ho i (fun e => ?_)]
    · exact hh
    · subst e
      rw [hold] at hh
      injection hh with hh
      injection hh with _ h2 _
      exact ht h2.symm
  have hm : ∀ {i : Nat}, (∃ es c, w.heap[i]? = some (.map es c)) → w'.heap[i]? = w.heap[i]? := fun {i} ⟨es, c, hh⟩ => ho i (fun e => by
    subst e
    rw [hold] at hh
    injection hh with hh
    cases hh)
  refine ⟨hc _ _ _ _ (by decide) h.cells, h.lowb, h.lowa, h.lown, h.lowm, h.an, h.amm, h.nmm, ?_, h.alike.same (hm h.alike.map), h.need.same (hm h.need.map), h.names.same (hm h.names.map), fun o => (h.row o).stay fun i hi => ?_, h.sep, h.free, h.needed, h.same, h.found, h.few⟩
  · refine h.facts.stay (fun i hi => ?_) (fun i cs fr hh => hc _ _ _ _ (by decide) hh)
    obtain ⟨ps, _, ho2, _⟩ := h.facts
    obtain ⟨cs, hh⟩ := rowCells ho2 i hi
    rw [hh]
    exact hc _ _ _ _ (by decide) hh
  · obtain ⟨cs, hh⟩ := (h.row o).cellsAt i hi
    rw [hh]
    exact hc _ _ _ _ (by decide) hh
theorem InBook.sec {w w' : World} {base bb n : Nat} {fs : Facts} (h : InBook w base bb fs n) {g : Nat} {old : Array Value} (hold : w.heap[g]? = some (.cells old 26 (0, 0))) (ho : ∀ i, i ≠ g → w'.heap[i]? = w.heap[i]?) : InBook w' base bb fs n := by
  obtain ⟨n', h1, S, h3⟩ := h
  exact ⟨n', h1, S, h3.sec hold ho⟩
theorem kept_setCellsB {base : Nat} {w : World} (b : Nat) (hb : base ≤ b) : ∀ (vs : List Value) (o : Nat) (x : World), Kept base base w x → Kept base base w (x.setCells b o vs)
  | [], _, _, h => h
  | v :: r, o, _, h => kept_setCellsB b hb r (o + 1) _ (h.set (.inr hb) o v)
theorem BkFr.cells11 {base : Nat} {w x : World} (h : BkFr base w x) (hb : base ≤ w.heap.size) (g : Nat) (hg : w.heap.size ≤ g) (k : Nat) (vs : List Value) : BkFr base w (x.setCells g k vs) :=
  ⟨kept_setCellsB g (Nat.le_trans hb hg) vs k x h.kept, fun i cs t fr r h1 h2 h3 => (setCells_other (fun e => by have := lt_of_block r; omega) vs k x).trans (h.oth i cs t fr r h1 h2 h3)⟩
namespace Ky
/-- What an epoch's making notes: behind i derivations. -/
def mf (fs : Facts) (j c : List UInt8) : Nat → Facts
  | 0 => fs
  | i + 1 => Bk.note (mf fs j c i) ([key j c (src i)], [key j c (i + 1)])
def Room (c : Nat) (fs : Facts) (n : Nat) : Prop := n + c < 1000000 ∧ fs.length + c < 1000000 ∧ ∀ f ∈ fs, f.1.length < 1000000 ∧ f.2.length < 1000000
theorem Room.mild {c : Nat} {fs : Facts} {n : Nat} (h : Room c fs n) : Mild fs n := ⟨by have := h.1; omega, by have := h.2.1; omega, h.2.2⟩
theorem Room.more {c : Nat} {fs : Facts} {n : Nat} (h : Room (c + 3) fs n) (f : List (List UInt8) × List (List UInt8)) (h1 : f.1.length < 1000000) (h2 : f.2.length < 1000000) : Room c (Bk.note fs f) (n + 3) :=
  ⟨by have := h.1; omega, by have := h.2.1; have := bknote_length fs f; omega, fun g hg => by
    rcases bknote_mem fs f g hg with h3 | h3
    · exact h.2.2 g h3
    · rw [h3]; exact ⟨h1, h2⟩⟩
theorem Room.mf {fs : Facts} {n c : Nat} (j k : List UInt8) : ∀ i, i ≤ 6 → Room (c + 18) fs n → Room (c + 3 * (6 - i)) (mf fs j k i) (n + 3 * i)
  | 0, _, h => h
  | i + 1, hi, h => by
    have h1 := Room.mf (fs := fs) (n := n) (c := c) j k i (by omega) h
    rw [show c + 3 * (6 - i) = c + 3 * (6 - (i + 1)) + 3 by omega] at h1
    have := h1.more ([key j k (src i)], [key j k (i + 1)]) (by show 1 < _; decide) (by show 1 < _; decide)
    rw [show n + 3 * i + 3 = n + 3 * (i + 1) by omega] at this
    exact this
end Ky

set_option maxRecDepth 100000 in
set_option maxHeartbeats 6400000 in
theorem derive_bookX (base bb n : Nat) (fs : Facts) (X : Nat → Prop) (k : List UInt8) (hk : k.length = 32) (label context : ByteArray) (h1 : label.size < 268435456) (h2 : context.size < 268435456) (w : World) (hB : InBk w base bb fs n X) (hbase : base ≤ w.heap.size) (hX : ∀ k, X k → k < w.heap.size) (hm : Mild fs n) :
    Calls Tryd.prog 28 #[.pointer (some ⟨bb, 0, none⟩), .agg (bcells k).toArray, .string label, .string context] w fun e w' => e = .returned (.agg (bcells (Mc.derive k label.data.toList context.data.toList)).toArray) ∧ InBk w' base bb (Bk.note fs ([k], [Mc.derive k label.data.toList context.data.toList])) (n + 3) X ∧ BkFr base w w' := by
  obtain ⟨m, hm2⟩ : ∃ m, m = Mc.derive k label.data.toList context.data.toList := ⟨_, rfl⟩
  have hml : m.length = 32 := by rw [hm2]; exact Mc.derive_length _ _ _
  obtain ⟨i0, z0, hi0, hz0, hzs0, hs0, hb0⟩ := hash_info
  have HI0 := Lib.hid hi0
  have HZ0 := Lib.hid hz0
  have HS0 := Lib.hid hs0
  clear hi0 hz0 hzs0 hs0 hb0
  have HDV := Lib.hid (fun x => derive_calls k (Lib.hid hk) label context (Lib.hid h1) (Lib.hid h2) x)
  rw [← hm2] at HDV ⊢
  have HBASE := Lib.hid hbase
  have HBW := Lib.hid (fun (x : World) (rb : Nat) (kx : Kept w.heap.size w.heap.size w x) (hrb : w.heap.size ≤ rb) (_ : rb < x.heap.size) => (hB.freshOr (fun i => i = rb) (fun i hi => by omega)).kept kx)
  have HNT := Lib.hid (fun (x : World) (rb ga gb : Nat) (hI : InBk x base bb fs n (fun i => X i ∨ i = rb)) (hs : w.heap.size ≤ x.heap.size) (hrb : rb < x.heap.size) (hga : x.heap[ga]? = some (.cells (bcells k).toArray 23 (0, 0))) (hgb : x.heap[gb]? = some (.cells (bcells m).toArray 23 (0, 0))) =>
    pnote_book base bb n fs _ k hk [m] ga 1 (.slice (some ⟨gb, 0, none⟩) 1 1) x hI (Nat.le_trans hbase hs) (fun i hi => hi.elim (fun h => Nat.lt_of_lt_of_le (hX i h) hs) (fun h => by rw [h]; exact hrb)) hm (by show 1 < _; decide) hga (hs_one hml hgb) (fun _ _ e => by cases e))
  have HLD := Lib.hid (fun (u : World) (b : Nat) (h : u.heap[b]? = some (.cells (bcells k).toArray 23 (0, 0))) => load_hash11 hk h)
  have HLU := Lib.hid (fun (u : World) (b : Nat) (h : u.heap[b]? = some (.cells (bcells m).toArray 23 (0, 0))) => load_hash11 hml h)
  have HK32 := Lib.hid (show (bcells k).toArray.size = 32 by rw [List.size_toArray, bcells_length, hk])
  have HCS := Lib.hid (show (bcells m).toArray.size = 32 by rw [List.size_toArray, bcells_length, hml])
  have HIU := Lib.hid (keyInfo11 hml)
  have HZU := Lib.hid (keySize11 hml)
  have HAU := Lib.hid (bcells_all m)
  obtain ⟨fs2, hfs2⟩ : ∃ t, t = Bk.note fs ([k], [m]) := ⟨_, rfl⟩
  rw [← hfs2] at HNT ⊢
  generalize (bcells m).toArray = cu at HDV HNT HLU HCS HIU HZU HAU ⊢
  generalize (bcells k).toArray = kc at HDV HNT HLD HK32 ⊢
  clear hm2 hml hk h1 h2 hB hbase hX hm hfs2
  go_enter Tryd.func28, Tryd.ntmps28
  go_upto_region 0 with fail
  refine wp_region_lit ?_
  refine @BigFrame.wpList_want _ _ _ _ _ _ _ ?hw98001 ?_
  case hw98001 => kernel_rfl
  intro K hK
  go_simp
  refine hK _ _ ?_
  clear hK K
  have kn : Kept w.heap.size w.heap.size w (w.alloc (.cells kc 23)) := (Kept.refl _ _ _).alloc (Nat.le_refl _) _
  have rpb := heap_new w (.cells kc 23)
  have Kw1 := kn
  generalize w.alloc (.cells kc 23) = w1 at kn rpb Kw1  ⊢
  obtain ⟨pb, hpb⟩ : ∃ n, n = w.heap.size := ⟨_, rfl⟩
  rw [← hpb] at rpb
  (try rw [← hpb])
  clear hpb kn
  refine @wpL_alloc _ _ _ _ _ _ _ _ ?hw98002 23 rfl _ (alloc_hash11 _) ?_
  case hw98002 => kernel_rfl
  simp only [Act.put, List.setIfInBounds_toArray, List.set_cons_zero, List.set_cons_succ]
  have kn : Kept w1.heap.size w1.heap.size w1 (w1.alloc (.cells zeros32 23)) := (Kept.refl _ _ _).alloc (Nat.le_refl _) _
  have rrb := heap_new w1 (.cells zeros32 23)
  replace rpb := row_kept rpb kn
  have Kw2 := Kw1.onto kn
  have HRB : Hid (w.heap.size ≤ w1.heap.size) := Lib.hid (Kw1.size)
  generalize w1.alloc (.cells zeros32 23) = w2 at kn rrb Kw2 rpb ⊢
  obtain ⟨rb, hrb⟩ : ∃ n, n = w1.heap.size := ⟨_, rfl⟩
  rw [← hrb] at rrb HRB
  (try rw [← hrb])
  clear hrb kn Kw1
  have Rpb := Lib.hid rpb
  clear rpb
  have Rrb := Lib.hid rrb
  clear rrb
  have KW := Lib.hid Kw2
  clear Kw2
  go_upto_region 1 with fail
  refine wp_region_lit ?_
  refine @wpList_load_known _ _ _ _ _ _ _ ?hw98004 23 (.tmp 5) rfl (pb) (0) rfl (.agg kc) (HLD.out _ _ Rpb.out) ?_
  case hw98004 => kernel_rfl
  simp only [Act.put, List.setIfInBounds_toArray, List.set_cons_zero, List.set_cons_succ]
  refine @BigFrame.wpList_want _ _ _ _ _ _ _ ?hw98005 ?_
  case hw98005 => kernel_rfl
  intro K hK
  go_simp
  refine hK _ _ ?_
  clear hK K
  refine @BigFrame.wpList_want _ _ _ _ _ _ _ ?hw98006 ?_
  case hw98006 => kernel_rfl
  intro K hK
  go_simp
  refine hK _ _ ?_
  clear hK K
  refine @BigFrame.wpList_want _ _ _ _ _ _ _ ?hw98003 ?_
  case hw98003 => kernel_rfl
  intro K hK
  go_simp
  go_at_call 46
  refine (HDV.out _).mono ?_
  rintro e w3 ⟨rfl, k3⟩
  have K3 := Lib.hid (KW.out.onto k3)
  replace Rpb := Lib.hid (row_kept Rpb.out k3)
  replace Rrb := Lib.hid (row_kept Rrb.out k3)
  clear k3 KW
  refine hK _ _ ?_
  clear hK K
  refine @wpL_alloc _ _ _ _ _ _ _ _ ?hw98007 23 rfl _ (alloc_hash11 _) ?_
  case hw98007 => kernel_rfl
  simp only [Act.put, List.setIfInBounds_toArray, List.set_cons_zero, List.set_cons_succ]
  refine wpList_store_row rfl 23 _ _ rfl (w3.heap.size) cu rfl rfl 23 zeros32 (heap_new _ _) (HIU.out) (HZU.out) (HAU.out) ?_
  simp only [Act.put]
  rw [World.setRow_alloc_new]
  have kn : Kept w3.heap.size w3.heap.size w3 (w3.alloc (.cells cu 23)) := (Kept.refl _ _ _).alloc (Nat.le_refl _) _
  have Rmb := Lib.hid (heap_new w3 (.cells cu 23))
  replace Rpb := Lib.hid (row_kept Rpb.out kn)
  replace Rrb := Lib.hid (row_kept Rrb.out kn)
  have K4 := Lib.hid (K3.out.onto kn)
  clear kn K3
  generalize w3.alloc (.cells cu 23) = w4 at Rmb K4 Rpb Rrb ⊢
  generalize w3.heap.size = mb at Rmb ⊢
  go_upto_region 2 with fail
  refine wp_region_lit ?_
  refine @BigFrame.wpList_want _ _ _ _ _ _ _ ?hw98010 ?_
  case hw98010 => kernel_rfl
  intro K hK
  go_simp
  refine hK _ _ ?_
  clear hK K
  refine @wpList_load_known _ _ _ _ _ _ _ ?hw98011 23 (.tmp 5) rfl (pb) (0) rfl (.agg kc) (HLD.out _ _ Rpb.out) ?_
  case hw98011 => kernel_rfl
  simp only [Act.put, List.setIfInBounds_toArray, List.set_cons_zero, List.set_cons_succ]
  refine @BigFrame.wpList_want _ _ _ _ _ _ _ ?hw98008 ?_
  case hw98008 => kernel_rfl
  intro K hK
  refine wp_build_one _ 51 23 rfl i0 z0 Tryd.underlying51 HI0.out HZ0.out kc rfl (by rw [HS0.out]; exact HK32.out) (by rw [HS0.out]; decide) (by rw [HS0.out]; decide) ?_
  refine hK _ _ ?_
  clear hK K
  simp only [Act.put, List.setIfInBounds_toArray, List.set_cons_zero, List.set_cons_succ]
  have kn : Kept w4.heap.size w4.heap.size w4 (w4.alloc (.cells kc 23)) := (Kept.refl _ _ _).alloc (Nat.le_refl _) _
  have Rga := Lib.hid (heap_new w4 (.cells kc 23))
  replace Rpb := Lib.hid (row_kept Rpb.out kn)
  replace Rrb := Lib.hid (row_kept Rrb.out kn)
  replace Rmb := Lib.hid (row_kept Rmb.out kn)
  have Kw5 := Lib.hid (K4.out.onto kn)
  clear kn K4
  generalize w4.alloc (.cells kc 23) = w5 at Rga Kw5 Rpb Rrb Rmb ⊢
  generalize w4.heap.size = ga at Rga ⊢
  refine @wpList_load_known _ _ _ _ _ _ _ ?hw98012 23 (.tmp 9) rfl (mb) (0) rfl (.agg cu) (HLU.out _ _ Rmb.out) ?_
  case hw98012 => kernel_rfl
  simp only [Act.put, List.setIfInBounds_toArray, List.set_cons_zero, List.set_cons_succ]
  refine @BigFrame.wpList_want _ _ _ _ _ _ _ ?hw98009 ?_
  case hw98009 => kernel_rfl
  intro K hK
  refine wp_build_one _ 51 23 rfl i0 z0 Tryd.underlying51 HI0.out HZ0.out cu rfl (by rw [HS0.out]; exact HCS.out) (by rw [HS0.out]; decide) (by rw [HS0.out]; decide) ?_
  refine hK _ _ ?_
  clear hK K
  simp only [Act.put, List.setIfInBounds_toArray, List.set_cons_zero, List.set_cons_succ]
  have kn : Kept w5.heap.size w5.heap.size w5 (w5.alloc (.cells cu 23)) := (Kept.refl _ _ _).alloc (Nat.le_refl _) _
  have Rgb := Lib.hid (heap_new w5 (.cells cu 23))
  replace Rpb := Lib.hid (row_kept Rpb.out kn)
  replace Rrb := Lib.hid (row_kept Rrb.out kn)
  replace Rmb := Lib.hid (row_kept Rmb.out kn)
  replace Rga := Lib.hid (row_kept Rga.out kn)
  have Kw6 := Lib.hid (Kw5.out.onto kn)
  clear kn Kw5
  generalize w5.alloc (.cells cu 23) = w6 at Rgb Kw6 Rpb Rrb Rmb Rga ⊢
  generalize w5.heap.size = gb at Rgb ⊢
  have HBX := Lib.hid (HBW.out w6 rb Kw6.out HRB.out (lt_of_block Rrb.out))
  have HNN := Lib.hid (HNT.out w6 rb ga gb HBX.out Kw6.out.size (lt_of_block Rrb.out) Rga.out Rgb.out)
  refine @BigFrame.wpList_want _ _ _ _ _ _ _ ?hw98013 ?_
  case hw98013 => kernel_rfl
  intro K hK
  go_simp
  go_at_call 47
  refine HNN.out.mono ?_
  rintro e w8 ⟨rfl, b8, f8⟩
  refine hK _ _ ?_
  clear hK K
  have R8 := Lib.hid (f8.row Rrb.out)
  have U8 := Lib.hid (f8.row Rmb.out)
  have F8 := Lib.hid ((BkFr.ofKept HBASE.out Kw6.out).trans f8)
  have B8 := Lib.hid b8
  clear f8 b8 HNN HBX
  go_upto_region 3 with fail
  refine wp_region_lit ?_
  refine @wpList_load_known _ _ _ _ _ _ _ ?hw98014 23 (.tmp 9) rfl (mb) (0) rfl (.agg cu) (HLU.out _ _ U8.out) ?_
  case hw98014 => kernel_rfl
  simp only [Act.put, List.setIfInBounds_toArray, List.set_cons_zero, List.set_cons_succ]
  refine wpList_store_row rfl 23 _ _ rfl (rb) cu rfl rfl 23 zeros32 (R8.out) HIU.out HZU.out HAU.out ?_
  simp only [Act.put]
  have R9 := setRow_heap w8 rb zeros32 cu _ _ (R8.out)
  have F9 := Lib.hid (F8.out.put HBASE.out rb HRB.out cu)
  have B9 := Lib.hid ((B8.out.put rb (.inr rfl) zeros32 cu (0, 0) R8.out).less X (fun k hk => .inl hk))
  generalize w8.setRow rb cu = w9 at R9 F9 B9 ⊢
  go_wp2
  refine bodyPost_ret (results_cell_row rfl _ _ rb 23 cu (0, 0) _ rfl R9 Tryd.underlying23 rfl HIU.out) rfl ?_
  exact ⟨rfl, B9.out, F9.out⟩

theorem derive_book11 (base bb n : Nat) (fs : Facts) (k : List UInt8) (hk : k.length = 32) (label context : ByteArray) (h1 : label.size < 268435456) (h2 : context.size < 268435456) (w : World) (hB : InBook w base bb fs n) (hbase : base ≤ w.heap.size) (hm : Mild fs n) :
    Calls Tryd.prog 28 #[.pointer (some ⟨bb, 0, none⟩), .agg (bcells k).toArray, .string label, .string context] w fun e w' => e = .returned (.agg (bcells (Mc.derive k label.data.toList context.data.toList)).toArray) ∧ InBook w' base bb (Bk.note fs ([k], [Mc.derive k label.data.toList context.data.toList])) (n + 3) ∧ BkFr base w w' :=
  (derive_bookX base bb n fs (fun _ => False) k hk label context h1 h2 w (hB.apart _ (fun _ h => h.elim)) hbase (fun _ h => h.elim) hm).mono fun _ _ ⟨a, b, c⟩ => ⟨a, b.book, c⟩
theorem make_book11 (base bb n : Nat) (fs : Facts) (j : List UInt8) (hj : j.length = 32) (cc : ByteArray) (hc : cc.size < 268435456) (w : World) (hB : InBook w base bb fs n) (hbase : base ≤ w.heap.size) (hm : Ky.Room 18 fs n) :
    Calls Tryd.prog 10 #[.pointer (some ⟨bb, 0, none⟩), .agg (bcells j).toArray, .string cc] w fun e w' => e = .returned (.agg (bcells (Ky.secs j cc.data.toList)).toArray) ∧ InBook w' base bb (Ky.mf fs j cc.data.toList 6) (n + 18) ∧ BkFr base w w' := by
  refine (make_any11 (some ⟨bb, 0, none⟩) j hj cc w (fun i x => i ≤ 6 ∧ InBook x base bb (Ky.mf fs j cc.data.toList i) (n + 3 * i) ∧ BkFr base w x) (fun x k => ⟨Nat.zero_le _, hB.kept k, BkFr.ofKept hbase k⟩)
    (fun i x x' h k => ⟨h.1, h.2.1.kept k, h.2.2.trans (BkFr.ofKept (Nat.le_trans hbase h.2.2.kept.size) k)⟩)
    (fun i x g k vs cs h hg hr => ⟨h.1, h.2.1.sec hr (fun q hq => setCells_other hq vs k x), h.2.2.cells11 hbase g hg k vs⟩)
    (fun i x g vs cs h hg hr => ⟨h.1, h.2.1.sec hr (fun q hq => setRow_other x g q vs hq), h.2.2.put hbase g hg vs⟩)
    (fun i hi x h => ?_)).mono fun e w' ⟨h1, h2⟩ => ⟨h1, h2.2.1, h2.2.2⟩
  rw [Ky.key_step j cc i hi]
  have hr := Ky.Room.mf (fs := fs) (n := n) (c := 0) j cc.data.toList i (by omega) (by simpa using hm)
  refine (derive_book11 base bb (n + 3 * i) (Ky.mf fs j cc.data.toList i) _ (Ky.key_length hj _ _) (Ky.lab i) (Ky.cx cc i) (Nat.lt_of_le_of_lt (Ky.lab_size i) (by decide)) (Nat.lt_of_le_of_lt (Ky.cx_size cc i) hc) x h.2.1 (Nat.le_trans hbase h.2.2.kept.size) hr.mild).mono ?_
  rintro e w' ⟨rfl, b, fr⟩
  refine ⟨rfl, ⟨by omega, ?_, h.2.2.trans fr⟩, fun g cs t q hq ht => fr.oth g cs t q hq ?_ ?_ ?_⟩
  · rw [← Ky.key_step j cc i hi] at b
    rw [show n + 3 * (i + 1) = n + 3 * i + 3 by omega]
    exact b
  · rcases ht with rfl | rfl <;> decide
  · rcases ht with rfl | rfl <;> decide
  · rcases ht with rfl | rfl <;> decide
theorem app_book11 (base bb n : Nat) (fs : Facts) (k : List UInt8) (hk : k.length = 32) (q : Nat) (hq : q < 64) (w : World) (tab : Tab w) (hB : InBook w base bb fs n) (hbase : base ≤ w.heap.size) (hm : Mild fs n) :
    Calls Tryd.prog 12 #[.pointer (some ⟨bb, 0, none⟩), .agg (bcells k).toArray, .int .i64 (q : Int)] w fun e w' => e = .returned (.agg (bcells (Ky.app k q)).toArray) ∧ InBook w' base bb (Bk.note fs ([k], [Ky.app k q])) (n + 3) ∧ BkFr base w w' := by
  refine app_any11 (some ⟨bb, 0, none⟩) k hk q hq w tab (fun x => InBook x base bb (Bk.note fs ([k], [Ky.app k q])) (n + 3) ∧ BkFr base w x) (fun x rb kx hrb rx => ?_)
  have hI : InBk x base bb fs n (fun i => i = rb) := (hB.apart (fun i => i = rb) (fun i hi => by omega)).kept kx
  refine (derive_bookX base bb n fs _ k hk ⟨#[97, 112, 112]⟩ (str (Wm.enc q)) (by decide) (by rw [str_size]; have := Wm.enc_length_le q; omega) x hI (Nat.le_trans hbase kx.size) (fun i hi => by rw [hi]; exact lt_of_block rx) hm).mono ?_
  rintro e w' ⟨rfl, b, fr⟩
  exact ⟨rfl, fr.row rx, (b.put rb rfl _ _ (0, 0) (fr.row rx)).book, ((BkFr.ofKept hbase kx).trans fr).put hbase rb hrb _⟩

end Go.Proofs.YtdfbmijbmlainaaDoor

namespace Go.Proofs.YtdfbmijbmlainaaDoor
open Go.RowKit

theorem fill_from (size : Nat) : ∀ (L : List (Array Value)) (k : Nat) (old : Array Value), (∀ c ∈ L, c.size = size) → (k + L.length) * size ≤ old.size → Instr.fill (fun i => some (i * size, size)) old ((L.zipIdx k).map fun x => (x.2, Value.agg x.1)) = some (old.toList.take (k * size) ++ (L.map (·.toList)).flatten ++ old.toList.drop ((k + L.length) * size)).toArray
  | [], k, old, _, _ => by
    rw [List.zipIdx_nil, List.map_nil, Instr.fill]
    simp
  | c :: L, k, old, hs, ho => by
    have hc : c.size = size := hs c (List.mem_cons_self ..)
    have e0 : (k + (c :: L).length) * size = k * size + size + L.length * size := by rw [List.length_cons, Nat.add_mul, Nat.add_mul]; omega
    have h1 : k * size + size ≤ old.size := by omega
    rw [List.zipIdx_cons, List.map_cons, fill_step _ _ _ _ _ (k * size) size rfl hc h1, fold_at c old (k * size) (by omega)]
    have hlen : (old.toList.take (k * size) ++ c.toList).length = (k + 1) * size := by
      rw [List.length_append, List.length_take, Nat.min_eq_left (by simp; omega), Nat.add_mul]
      simp
      omega
    rw [fill_from size L (k + 1) _ (fun d hd => hs d (List.mem_cons_of_mem _ hd)) (by simp; rw [Nat.add_mul, Nat.add_mul]; omega)]
    congr 1
    apply Array.ext'
    simp only [hc]
    rw [List.take_append_of_le_length (by omega), List.take_of_length_le (by omega), List.map_cons, List.flatten_cons]
    rw [List.drop_append, List.drop_of_length_le (by rw [hlen]; apply Nat.mul_le_mul_right; omega), hlen, List.nil_append, List.drop_drop]
    have e2 : k * size + size + ((k + 1 + L.length) * size - (k + 1) * size) = (k + (c :: L).length) * size := by
      rw [e0, Nat.add_mul (k + 1), Nat.add_sub_cancel_left]
    rw [e2]
    simp only [List.append_assoc]
theorem fill_many (size : Nat) (L : List (Array Value)) (hs : ∀ c ∈ L, c.size = size) (old : Array Value) (ho : old.size = L.length * size) : Instr.fill (fun i => some (i * size, size)) old (L.zipIdx.map fun x => (x.2, Value.agg x.1)) = some (L.map (·.toList)).flatten.toArray := by
  rw [fill_from size L 0 old hs (by rw [Nat.zero_add]; omega)]
  congr 1
  apply Array.ext'
  simp [ho]

theorem run_build_three {P : Program} (w : World) (t e : TypeId) (i : TypeInfo) (z : Value) (ht : P.underlying t = some (.slice e)) (hi : P.info? e = some i) (hz : i.zero = some z) (c0 c1 c2 : Array Value) (h0 : c0.size = i.size) (h1 : c1.size = i.size) (h2 : c2.size = i.size) (hpos : 0 < i.size) (hmax : 3 * i.size ≤ 16777216) :
    (Instr.buildSlice t 3 #[(0, .agg c0), (1, .agg c1), (2, .agg c2)]).run P w = .ok (.slice (some ⟨w.heap.size, 0, none⟩) 3 3) (w.alloc (.cells (c0.toList ++ c1.toList ++ c2.toList).toArray e)) := by
  have n0 : ¬ (3 * i.size = 0) := by omega
  have n1 : ¬ (16777216 < 3 * i.size) := by omega
  have hf : ∀ old : Array Value, old.size = 3 * i.size → Instr.fill (fun k => some (k * i.size, i.size)) old [(0, .agg c0), (1, .agg c1), (2, .agg c2)] = some (c0.toList ++ c1.toList ++ c2.toList).toArray := fun old ho => by
    have := fill_many i.size [c0, c1, c2] (by intro c hc; simp only [List.mem_cons, List.not_mem_nil, or_false] at hc; rcases hc with rfl | rfl | rfl <;> assumption) old (by rw [ho]; rfl)
    rw [show ([c0, c1, c2].zipIdx.map fun x => (x.2, Value.agg x.1)) = [(0, .agg c0), (1, .agg c1), (2, .agg c2)] from rfl, show ([c0, c1, c2].map (·.toList)).flatten = c0.toList ++ c1.toList ++ c2.toList by simp] at this
    exact this
  simp only [Instr.buildSlice]
  simp [run_underlying ht, sizeOf, typeInfo, hi, zeroValue, hz, n1, newRow]
  rw [if_neg n0, hf _ (by simp)]
  simp

theorem run_build_four {P : Program} (w : World) (t e : TypeId) (i : TypeInfo) (z : Value) (ht : P.underlying t = some (.slice e)) (hi : P.info? e = some i) (hz : i.zero = some z) (c0 c1 c2 c3 : Array Value) (h0 : c0.size = i.size) (h1 : c1.size = i.size) (h2 : c2.size = i.size) (h3 : c3.size = i.size) (hpos : 0 < i.size) (hmax : 4 * i.size ≤ 16777216) :
    (Instr.buildSlice t 4 #[(0, .agg c0), (1, .agg c1), (2, .agg c2), (3, .agg c3)]).run P w = .ok (.slice (some ⟨w.heap.size, 0, none⟩) 4 4) (w.alloc (.cells (c0.toList ++ c1.toList ++ c2.toList ++ c3.toList).toArray e)) := by
  have n0 : ¬ (4 * i.size = 0) := by omega
  have n1 : ¬ (16777216 < 4 * i.size) := by omega
  have hf : ∀ old : Array Value, old.size = 4 * i.size → Instr.fill (fun k => some (k * i.size, i.size)) old [(0, .agg c0), (1, .agg c1), (2, .agg c2), (3, .agg c3)] = some (c0.toList ++ c1.toList ++ c2.toList ++ c3.toList).toArray := fun old ho => by
    have := fill_many i.size [c0, c1, c2, c3] (by intro c hc; simp only [List.mem_cons, List.not_mem_nil, or_false] at hc; rcases hc with rfl | rfl | rfl | rfl <;> assumption) old (by rw [ho]; rfl)
    rw [show ([c0, c1, c2, c3].zipIdx.map fun x => (x.2, Value.agg x.1)) = [(0, .agg c0), (1, .agg c1), (2, .agg c2), (3, .agg c3)] from rfl, show ([c0, c1, c2, c3].map (·.toList)).flatten = c0.toList ++ c1.toList ++ c2.toList ++ c3.toList by simp] at this
    exact this
  simp only [Instr.buildSlice]
  simp [run_underlying ht, sizeOf, typeInfo, hi, zeroValue, hz, n1, newRow]
  rw [if_neg n0, hf _ (by simp)]
  simp

section
variable {P : Program} {ops : Array Oper} {rest : List Oper} {o : Oper} {a : Act} {w w' : World} {Q : Exit → Act → World → Prop}
/-- A slice that is built, its run known. -/
theorem wpL_sliceN (hw : Region.wanted o (yielded ops a.tmps) = true) (t : TypeId) (n : Nat) (xs : Array (Nat × Operand)) (ho : o.op = .buildSlice t n xs) (vs : Array (Nat × Value)) (hv : (xs.map fun (i, x) => (i, a.eval x)) = vs) {u : Value} (hr : (Instr.buildSlice t n vs).run P w = .ok u w') (hk : wpList P ops Q rest (a.put o.dst u) w') : wpList P ops Q (o :: rest) a w := by
  subst hv
  refine wpList_step fun K hK => ?_
  rw [if_pos hw]
  unfold Oper.wp execOp
  simp only [ho, Sem.run_bind, hr, Result.andThen_ok, Sem.run_pure]
  exact hK _ _ hk
theorem wp_sliceN {K : Act → World → Prop} (t : TypeId) (n : Nat) (xs : Array (Nat × Operand)) (ho : o.op = .buildSlice t n xs) (vs : Array (Nat × Value)) (hv : (xs.map fun (i, x) => (i, a.eval x)) = vs) {u : Value} (hr : (Instr.buildSlice t n vs).run P w = .ok u w') (hk : K (a.put o.dst u) w') : o.wp P a w K Q := by
  subst hv
  unfold Oper.wp execOp
  simp only [ho, Sem.run_bind, hr, Result.andThen_ok, Sem.run_pure]
  exact hk
end

end Go.Proofs.YtdfbmijbmlainaaDoor

namespace Go.Proofs.YtdfbmijbmlainaaDoor
open Go.RowKit Go.Lib

theorem own_one22 {w : World} {g : Nat} {x : List UInt8} (hx : x.length = 32) (h : w.heap[g]? = some (.cells (bcells x).toArray 22 (0, 0))) : Own w 0 (.slice (some ⟨g, 0, none⟩) 1 1) [x] :=
  ⟨fun y hy => by rw [List.mem_singleton.1 hy]; exact hx, by rw [bcells_length]; simp [hx], .inr ⟨g, 1, _, rfl, Nat.zero_le _, h, Nat.le_refl _, by unfold maxLen; omega, by rw [List.size_toArray, bcells_length, hx], by
    show (bcells x).toArray.toList.take 32 = bcells [x].flatten
    rw [List.take_of_length_le (by simp [bcells, hx])]
    simp⟩⟩
theorem own_row22 {w : World} {g n : Nat} {L : List (List UInt8)} (base : Nat) (hb : base ≤ g) (hL : ∀ x ∈ L, x.length = 32) (hn : L.length = n) (hm : n ≤ 1000) (h : w.heap[g]? = some (.cells (bcells L.flatten).toArray 22 (0, 0))) : Own w base (.slice (some ⟨g, 0, none⟩) n n) L := by
  subst hn
  refine ⟨hL, by rw [bcells_length, flatten_length L hL], .inr ⟨g, _, _, rfl, hb, h, Nat.le_refl _, by unfold maxLen; omega, by rw [List.size_toArray, bcells_length, flatten_length L hL], ?_⟩⟩
  rw [List.take_of_length_le]
  rw [bcells_length, flatten_length L hL]
  exact Nat.le_refl _
/-- Digests put behind a row of one's own, from wherever they lie. -/
theorem append_digests (w : World) (base : Nat) (v : Value) (M : List (List UInt8)) (hown : Own w base v M) (hbase : base ≤ w.heap.size) (b o c : Nat) (X : List (List UInt8)) (hx : ∀ x ∈ X, x.length = 32) (hb : ∀ i (hi : i < X.length), w.rangeAt b (o + i * 32) (bcells X[i])) (hl : M.length + X.length < 1073741824) :
    ∃ v' w', (Builtin.append_ #[47, 47] 47 #[v, .slice (some ⟨b, o, none⟩) X.length c]).run Tryd.prog w = .ok v' w' ∧ Own w' base v' (M ++ X) ∧ w.grownBy w' v.ownBlock := by
  obtain ⟨i, z, hi, hz, hzs, hs, hby⟩ := book_info
  obtain ⟨h32, ho⟩ := hown
  obtain ⟨v', w', h1, h2, h3, _⟩ := run_append_own (P := Tryd.prog) w base 47 47 22 i z 32 32 Tryd.underlying47 hi hz hs hby hzs (by decide) v M.length (bcells M.flatten) ho ⟨b, o, none⟩ X.length c (bcells X.flatten)
    (by rw [bcells_length, flatten_length X hx]) (fun j u hu => by
      rw [Addr.add_lit]
      have hj : j < X.flatten.length := by
        rcases Nat.lt_or_ge j X.flatten.length with h | h
        · exact h
        · rw [List.getElem?_eq_none (by rw [bcells_length]; exact h)] at hu; cases hu
      rw [flatten_length X hx] at hj
      have hq : j / 32 < X.length := by omega
      have hr : j % 32 < 32 := Nat.mod_lt _ (by decide)
      have h2 := hb (j / 32) hq (j % 32) u (by
        rw [bcells, List.getElem?_map] at hu ⊢
        rw [← flatten_at X hx (j / 32) hq (j % 32) hr, show j / 32 * 32 + j % 32 = j by omega]
        exact hu)
      rw [show o + j / 32 * 32 + j % 32 = o + j by omega] at h2
      exact h2)
    (bcells_one _) (by unfold maxLen; omega) (by omega) hbase
  rw [← bcells_append, ← List.flatten_append] at h2
  refine ⟨v', w', h1, ⟨fun y hy => ?_, ?_⟩, h3⟩
  · rcases List.mem_append.1 hy with h | h
    · exact h32 y h
    · exact hx y h
  · rw [List.length_append]
    exact h2
/-- Three digests put behind four that fill their row: the row is new. -/
theorem append_full43 (w : World) (g b : Nat) (L X : List (List UInt8)) (hL : ∀ x ∈ L, x.length = 32) (hX : ∀ x ∈ X, x.length = 32) (hl : L.length = 4) (hx : X.length = 3) (h : w.heap[g]? = some (.cells (bcells L.flatten).toArray 22 (0, 0))) (hb : w.heap[b]? = some (.cells (bcells X.flatten).toArray 22 (0, 0))) :
    ∃ g' c' w', (Builtin.append_ #[47, 47] 47 #[.slice (some ⟨g, 0, none⟩) 4 4, .slice (some ⟨b, 0, none⟩) 3 3]).run Tryd.prog w = .ok (.slice (some ⟨g', 0, none⟩) 7 c') w' ∧ Kept w.heap.size w.heap.size w w' ∧ ∀ d (hd : d < (L ++ X).length), w'.rangeAt g' (d * 32) (bcells (L ++ X)[d]) := by
  obtain ⟨i, z, hi, hz, hzs, hs, hby⟩ := book_info
  have cell : ∀ (u : World) (q : Nat) (M : List (List UInt8)) (zs : Array Value), u.heap[q]? = some (.cells ((bcells M.flatten).toArray ++ zs) 22 (0, 0)) → ∀ (j : Nat) (v : Value), (bcells M.flatten)[j]? = some v → u.cell? ⟨q, j, none⟩ = some v := fun u q M zs hh j v hv => by
    have hj : j < (bcells M.flatten).length := by
      rcases Nat.lt_or_ge j (bcells M.flatten).length with h | h
      · exact h
      · rw [List.getElem?_eq_none h] at hv; cases hv
    rw [cell_of_row u q j _ _ _ hh, Array.getElem?_append_left (by simpa using hj), List.getElem?_toArray]
    exact hv
  have hr := run_append_grow (P := Tryd.prog) w 47 47 22 i z Tryd.underlying47 hi hz ⟨g, 0, none⟩ 4 4 (bcells L.flatten) (by rw [bcells_length, flatten_length L hL, hl, hs]) (fun j v hv => by
    rw [Addr.add_lit, Nat.zero_add]
    exact cell w g L #[] (by simpa using h) j v hv) ⟨b, 0, none⟩ 3 3 (bcells X.flatten) (by rw [bcells_length, flatten_length X hX, hx, hs]) (fun j v hv => by
    rw [Addr.add_lit, Nat.zero_add]
    exact cell w b X #[] (by simpa using hb) j v hv) (by decide) (by decide) (by rw [hby]; decide)
  refine ⟨_, _, _, hr, (Kept.refl _ _ _).drew.alloc (Nat.le_refl _) _, fun d hd j v hv => ?_⟩
  have hM : ∀ x ∈ L ++ X, x.length = 32 := fun x hx => (List.mem_append.1 hx).elim (hL x) (hX x)
  have hj : j < 32 := by
    rcases Nat.lt_or_ge j 32 with h | h
    · exact h
    · rw [List.getElem?_eq_none (by rw [bcells_length, hM _ (List.getElem_mem hd)]; exact h)] at hv; cases hv
  have e : (bcells L.flatten).toArray ++ (bcells X.flatten).toArray = (bcells (L ++ X).flatten).toArray := by
    rw [List.flatten_append, bcells_append]
    simp
  refine cell _ w.drew.heap.size (L ++ X) ?zs ?ra (d * 32 + j) v ?rb
  case ra =>
    rw [← e]
    exact heap_new _ _
  case rb =>
    rw [bcells, List.getElem?_map] at hv ⊢
    rw [flatten_at (L ++ X) hM d hd j hj]
    exact hv
theorem alloc_fact22 (w : World) : (Instr.alloc 49 true (.tuple #[])).run Tryd.prog w = .ok (.pointer (some ⟨w.heap.size, 0, none⟩)) (w.alloc (.cells #[.slice none 0 0, .slice none 0 0] 49)) := by kernel_rfl
theorem build_fact22 (ga gb : Nat) (w : World) : (Instr.build 49 #[(0, .slice (some ⟨gb, 0, none⟩) 1 1), (1, .slice (some ⟨ga, 0, none⟩) 1 1)]).run Tryd.prog w = .ok (.agg #[.slice (some ⟨gb, 0, none⟩) 1 1, .slice (some ⟨ga, 0, none⟩) 1 1]) w := by kernel_rfl
theorem factInfo22 (a b : Value) : (Tryd.prog.info? 49).map (·.size) = some (#[a, b] : Array Value).size := by kernel_rfl
set_option maxRecDepth 100000 in
set_option maxHeartbeats 1600000 in
theorem made_calls (ga gb : Nat) (w : World) : Calls Tryd.prog 24 #[.slice (some ⟨ga, 0, none⟩) 1 1, .slice (some ⟨gb, 0, none⟩) 1 1] w fun e w' => e = .returned (.agg #[.slice (some ⟨gb, 0, none⟩) 1 1, .slice (some ⟨ga, 0, none⟩) 1 1]) ∧ Kept w.heap.size w.heap.size w w' := by
  go_enter Tryd.func24, Tryd.ntmps24
  go_upto_region 0 with fail
  refine wp_region_lit ?_
  refine @wpL_alloc _ _ _ _ _ _ _ _ ?hw98801 49 rfl _ (alloc_fact22 _) ?_
  case hw98801 => kernel_rfl
  simp only [Act.put, List.setIfInBounds_toArray, List.set_cons_zero, List.set_cons_succ]
  have R1 := heap_new w (.cells #[.slice none 0 0, .slice none 0 0] 49)
  have k1 : Kept w.heap.size w.heap.size w (w.alloc (.cells #[.slice none 0 0, .slice none 0 0] 49)) := (Kept.refl _ _ _).alloc (Nat.le_refl _) _
  have HRB := Lib.hid (Nat.le_refl w.heap.size)
  generalize w.alloc (.cells #[.slice none 0 0, .slice none 0 0] 49) = w1 at R1 k1 ⊢
  obtain ⟨rb, hrb⟩ : ∃ n, n = w.heap.size := ⟨_, rfl⟩
  have HRL : Hid (w.heap.size ≤ rb) := Lib.hid (Nat.le_of_eq hrb.symm)
  rw [← hrb] at R1
  (try rw [← hrb])
  clear hrb HRB
  have R1' := Lib.hid R1
  have K1 := Lib.hid k1
  clear R1 k1
  go_upto_region 1 with fail
  refine wp_region_lit ?_
  refine @BigFrame.wpList_want _ _ _ _ _ _ _ ?hw98802 ?_
  case hw98802 => kernel_rfl
  intro K hK
  go_simp
  refine hK _ _ ?_
  clear hK K
  refine @BigFrame.wpList_want _ _ _ _ _ _ _ ?hw98803 ?_
  case hw98803 => kernel_rfl
  intro K hK
  go_simp
  refine hK _ _ ?_
  clear hK K
  refine @wpL_buildN _ _ _ _ _ _ _ ?hw98804 49 _ rfl #[(0, .slice (some ⟨gb, 0, none⟩) 1 1), (1, .slice (some ⟨ga, 0, none⟩) 1 1)] (by simp only [List.map_toArray, List.map_cons, List.map_nil]; rfl) _ (build_fact22 _ _ _) ?_
  case hw98804 => kernel_rfl
  simp only [Act.put, List.setIfInBounds_toArray, List.set_cons_zero, List.set_cons_succ]
  refine wpList_store_row rfl 49 _ _ rfl (rb) #[.slice (some ⟨gb, 0, none⟩) 1 1, .slice (some ⟨ga, 0, none⟩) 1 1] rfl rfl 49 #[.slice none 0 0, .slice none 0 0] (R1'.out) (factInfo22 _ _) rfl (by kernel_rfl) ?_
  simp only [Act.put]
  have R9 := setRow_heap w1 rb _ #[.slice (some ⟨gb, 0, none⟩) 1 1, .slice (some ⟨ga, 0, none⟩) 1 1] _ _ (R1'.out)
  have k9 : Kept w.heap.size w.heap.size w (w1.setRow rb #[.slice (some ⟨gb, 0, none⟩) 1 1, .slice (some ⟨ga, 0, none⟩) 1 1]) := kept_setRow10 K1.out rb HRL.out _
  generalize w1.setRow rb #[.slice (some ⟨gb, 0, none⟩) 1 1, .slice (some ⟨ga, 0, none⟩) 1 1] = w9 at R9 k9 ⊢
  go_wp2
  refine bodyPost_ret (results_cell_row rfl _ _ rb 49 #[.slice (some ⟨gb, 0, none⟩) 1 1, .slice (some ⟨ga, 0, none⟩) 1 1] (0, 0) _ rfl R9 Tryd.underlying49 rfl (factInfo22 _ _)) rfl ?_
  exact ⟨rfl, k9⟩
namespace Ky
theorem mf_length (j c : List UInt8) : ∀ i, (mf [] j c i).length ≤ i
  | 0 => Nat.le_refl _
  | i + 1 => by
    have := mf_length j c i
    have := bknote_length (mf [] j c i) ([key j c (src i)], [key j c (i + 1)])
    rw [mf]
    omega
def Ones (L : Facts) : Prop := ∀ f ∈ L, f.1.length = 1 ∧ f.2.length = 1
theorem Ones.nil : Ones [] := fun _ h => nomatch h
theorem Ones.note {L : Facts} (h : Ones L) (a b : List UInt8) : Ones (Bk.note L ([a], [b])) := fun f hf => by
  rcases bknote_mem L ([a], [b]) f hf with h1 | h1
  · exact h f h1
  · rw [h1]; exact ⟨rfl, rfl⟩
theorem mf_ones (j c : List UInt8) : ∀ i, Ones (mf [] j c i)
  | 0 => Ones.nil
  | i + 1 => (mf_ones j c i).note _ _
theorem Ones.outs {L : Facts} (h : Ones L) : (Bk.outs L).length ≤ L.length := by
  have := outs_le 1 L (fun f hf => Nat.le_of_eq (h f hf).2)
  omega
/-- A type of rows that neither a book nor the document's facts are made of. -/
def Calm (t : TypeId) : Prop := t ≠ 84 ∧ t ≠ 3 ∧ t ≠ 121 ∧ t ≠ 49
end Ky
/-- A book of the facts gs and, from block L0 on, the document's list v of the facts L; rows rs that stand besides. -/
structure Kn (w : World) (b2 bb n : Nat) (gs : Facts) (L0 : Nat) (rs : List (Nat × Array Value × TypeId)) (x : World) (v : Value) (L : Facts) : Prop where
  kp : Kept w.heap.size w.heap.size w x
  bk : InBook x b2 bb gs n
  rw : ∀ p ∈ rs, x.heap[p.1]? = some (.cells p.2.1 p.2.2 (0, 0)) ∧ Ky.Calm p.2.2
  ls : OwnF x L0 v L
  lo : L0 ≤ x.heap.size
  hw : w.heap.size ≤ L0
  hb : w.heap.size ≤ b2
  hb2 : b2 ≤ x.heap.size
section
variable {w x x' : World} {b2 bb n L0 : Nat} {gs L : Facts} {rs : List (Nat × Array Value × TypeId)} {v : Value}
theorem Kn.kept (h : Kn w b2 bb n gs L0 rs x v L) (k : Kept x.heap.size x.heap.size x x') : Kn w b2 bb n gs L0 rs x' v L :=
  ⟨h.kp.onto k, h.bk.kept k, fun p hp => ⟨row_kept (h.rw p hp).1 k, (h.rw p hp).2⟩, h.ls.kept k (Nat.le_refl _), Nat.le_trans h.lo k.size, h.hw, h.hb, Nat.le_trans h.hb2 k.size⟩
theorem Kn.shape (h : Kn w b2 bb n gs L0 rs x v L) : ∃ ad c, v = .slice ad L.length c := by
  obtain ⟨ad, g, o, c, hv, _⟩ := h.ls.fs
  exact ⟨ad, c, hv⟩
theorem Kn.more (h : Kn w b2 bb n gs L0 rs x v L) (p : Nat × Array Value × TypeId) (hp : x.heap[p.1]? = some (.cells p.2.1 p.2.2 (0, 0))) (hc : Ky.Calm p.2.2) : Kn w b2 bb n gs L0 (p :: rs) x v L :=
  ⟨h.kp, h.bk, fun q hq => by
    rcases List.mem_cons.1 hq with e | e
    · rw [e]; exact ⟨hp, hc⟩
    · exact h.rw q e, h.ls, h.lo, h.hw, h.hb, h.hb2⟩
theorem Kn.note (h : Kn w b2 bb n gs L0 rs x v L) (hl : L.length ≤ 100) (ho : Ky.Ones L) (a m : List UInt8) (ha : a.length = 32) (hm : m.length = 32) (ga gm : Nat) (ra : x.heap[ga]? = some (.cells (bcells a).toArray 22 (0, 0))) (rm : x.heap[gm]? = some (.cells (bcells m).toArray 22 (0, 0))) :
    Calls Tryd.prog 23 #[v, .agg #[.slice (some ⟨ga, 0, none⟩) 1 1, .slice (some ⟨gm, 0, none⟩) 1 1]] x fun e w' => ∃ u, e = .returned (.tuple #[u, .int .i64 0]) ∧ Kn w b2 bb n gs L0 rs w' u (Bk.note L ([a], [m])) := by
  refine (refnote_calls L ([a], [m]) v _ _ x L0 h.ls h.lo (own_one22 ha ra) (own_one22 hm rm) (by omega) (fun g hg => by have := ho g hg; omega) (by show 1 < _; decide) (by show 1 < _; decide)).mono ?_
  rintro e w' ⟨u, rfl, h1, k, st⟩
  refine ⟨u, rfl, ⟨h.kp.trans (k.mono h.hw (fun _ hi _ => Nat.ne_of_lt (Nat.lt_of_lt_of_le hi h.hw))), ?_, fun p hp => ⟨st _ _ (h.rw p hp).1 (fun cs fr e => ?_), (h.rw p hp).2⟩, h1, Nat.le_trans h.lo k.size, h.hw, h.hb, Nat.le_trans h.hb2 k.size⟩⟩
  · obtain ⟨n', h1, S, h3⟩ := h.bk
    exact ⟨n', h1, S, h3.stayF st⟩
  · injection e with _ e2 _
    exact (h.rw p hp).2.2.2.2 e2
theorem Kn.book (h : Kn w b2 bb n gs L0 rs x v L) {gs' : Facts} {n' : Nat} (hB : InBook x' b2 bb gs' n') (f : BkFr b2 x x') : Kn w b2 bb n' gs' L0 rs x' v L :=
  ⟨h.kp.trans (f.kept.mono h.hb (fun _ hi _ => Nat.ne_of_lt (Nat.lt_of_lt_of_le hi h.hb))), hB, fun p hp => ⟨f.oth _ _ _ _ (h.rw p hp).1 (h.rw p hp).2.1 (h.rw p hp).2.2.1 (h.rw p hp).2.2.2.1, (h.rw p hp).2⟩, h.ls.bk f, Nat.le_trans h.lo f.kept.size, h.hw, h.hb, Nat.le_trans h.hb2 f.kept.size⟩
end

end Go.Proofs.YtdfbmijbmlainaaDoor
