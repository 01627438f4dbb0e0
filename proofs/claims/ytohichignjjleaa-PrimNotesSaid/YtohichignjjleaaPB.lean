/-
  PrimDerB; NotesMem: several texts in one.
-/
import Derived.Test.YtohichignjjleaaGP
import Derived.Test.YtohichignjjleaaGH
import Derived.Test.YtohichignjjleaaKA
import Derived.Test.YtohichignjjleaaPA

namespace Go.Proofs.Ytohichignjjleaa
open Go.RowKit Go.Lib

/-- What isn't there yet, beside what is in none of its blocks. -/
theorem OwnB.freshOr {w : World} {base : Nat} {X Y : Nat → Prop} {v : Value} {L : List (List (List UInt8) × List (List UInt8))} (h : OwnB w base X v L) (hY : ∀ k, Y k → w.heap.size ≤ k) : OwnB w base (fun k => X k ∨ Y k) v L := by
  obtain ⟨ps, hl, ho, hp⟩ := h
  refine ⟨ps, hl, ho, fun i hi hpi => ?_⟩
  obtain ⟨p, q, xp, xq⟩ := hp i hi hpi
  exact ⟨p, q, fun k hk hy => hy.elim (xp k hk) fun hy => absurd (p.low k hk).2 (Nat.not_lt.2 (hY k hy)), fun k hk hy => hy.elim (xq k hk) fun hy => absurd (q.low k hk).2 (Nat.not_lt.2 (hY k hy))⟩
theorem InBk.freshOr {w : World} {base bb n : Nat} {fs : Facts} {X : Nat → Prop} (h : InBk w base bb fs n X) (Y : Nat → Prop) (hY : ∀ k, Y k → w.heap.size ≤ k) : InBk w base bb fs n (fun k => X k ∨ Y k) := by
  obtain ⟨n', h1, S, h2, h⟩ := h
  refine ⟨n', h1, { S with X := fun k => X k ∨ Y k }, rfl, ?_⟩
  have hf := h.facts
  rw [h2] at hf
  exact ⟨h.cells, h.lowb, h.lowa, h.lown, h.lowm, h.an, h.amm, h.nmm, hf.freshOr hY, h.alike, h.need, h.names, h.row, h.sep, h.free, h.needed, h.same, h.found, h.few⟩
theorem OwnB.less {w : World} {base : Nat} {X Y : Nat → Prop} {v : Value} {L : List (List (List UInt8) × List (List UInt8))} (h : OwnB w base X v L) (hY : ∀ k, Y k → X k) : OwnB w base Y v L := by
  obtain ⟨ps, hl, ho, hp⟩ := h
  refine ⟨ps, hl, ho, fun i hi hpi => ?_⟩
  obtain ⟨p, q, xp, xq⟩ := hp i hi hpi
  exact ⟨p, q, fun k hk hy => xp k hk (hY k hy), fun k hk hy => xq k hk (hY k hy)⟩
theorem InBk.less {w : World} {base bb n : Nat} {fs : Facts} {X : Nat → Prop} (h : InBk w base bb fs n X) (Y : Nat → Prop) (hY : ∀ k, Y k → X k) : InBk w base bb fs n Y := by
  obtain ⟨n', h1, S, h2, h⟩ := h
  refine ⟨n', h1, { S with X := Y }, rfl, ?_⟩
  have hf := h.facts
  rw [h2] at hf
  exact ⟨h.cells, h.lowb, h.lowa, h.lown, h.lowm, h.an, h.amm, h.nmm, hf.less hY, h.alike, h.need, h.names, h.row, h.sep, h.free, h.needed, h.same, h.found, h.few⟩

set_option maxRecDepth 100000 in
set_option maxHeartbeats 6400000 in
theorem derive_bookX (base bb n : Nat) (fs : Facts) (X : Nat → Prop) (k : List UInt8) (hk : k.length = 32) (label context : ByteArray) (h1 : label.size < 268435456) (h2 : context.size < 268435456) (w : World) (hB : InBk w base bb fs n X) (hbase : base ≤ w.heap.size) (hX : ∀ k, X k → k < w.heap.size) (hm : Mild fs n) :
    Calls Try.prog 9 #[.pointer (some ⟨bb, 0, none⟩), .agg (bcells k).toArray, .string label, .string context] w fun e w' => e = .returned (.agg (bcells (Mc.derive k label.data.toList context.data.toList)).toArray) ∧ InBk w' base bb (Bk.note fs ([k], [Mc.derive k label.data.toList context.data.toList])) (n + 3) X ∧ BkFr base w w' := by
  obtain ⟨m, hm2⟩ : ∃ m, m = Mc.derive k label.data.toList context.data.toList := ⟨_, rfl⟩
  have hml : m.length = 32 := by rw [hm2]; exact Mc.derive_length _ _ _
  obtain ⟨i0, z0, hi0, hz0, hzs0, hs0, hb0⟩ := hash_info
  have HI0 := Lib.hid hi0
  have HZ0 := Lib.hid hz0
  have HS0 := Lib.hid hs0
  clear hi0 hz0 hzs0 hs0 hb0
  have HDV := Lib.hid (fun x => derive_calls k (Lib.hid hk) label context (Lib.hid h1) (Lib.hid h2) x)
  rw [← hm2] at HDV ⊢
  have HBASE := Lib.hid hbase
  have HBW := Lib.hid (fun (x : World) (rb : Nat) (kx : Kept w.heap.size w.heap.size w x) (hrb : w.heap.size ≤ rb) (_ : rb < x.heap.size) => (hB.freshOr (fun i => i = rb) (fun i hi => by omega)).kept kx)
  have HNT := Lib.hid (fun (x : World) (rb ga gb : Nat) (hI : InBk x base bb fs n (fun i => X i ∨ i = rb)) (hs : w.heap.size ≤ x.heap.size) (hrb : rb < x.heap.size) (hga : x.heap[ga]? = some (.cells (bcells k).toArray 26 (0, 0))) (hgb : x.heap[gb]? = some (.cells (bcells m).toArray 26 (0, 0))) =>
    pnote_book base bb n fs _ k hk [m] ga 1 (.slice (some ⟨gb, 0, none⟩) 1 1) x hI (Nat.le_trans hbase hs) (fun i hi => hi.elim (fun h => Nat.lt_of_lt_of_le (hX i h) hs) (fun h => by rw [h]; exact hrb)) hm (by show 1 < _; decide) hga (hs_one hml hgb) (fun _ _ e => by cases e))
  have HLD := Lib.hid (fun (u : World) (b : Nat) (h : u.heap[b]? = some (.cells (bcells k).toArray 26 (0, 0))) => load_hash11 hk h)
  have HLU := Lib.hid (fun (u : World) (b : Nat) (h : u.heap[b]? = some (.cells (bcells m).toArray 26 (0, 0))) => load_hash11 hml h)
  have HK32 := Lib.hid (show (bcells k).toArray.size = 32 by rw [List.size_toArray, bcells_length, hk])
  have HCS := Lib.hid (show (bcells m).toArray.size = 32 by rw [List.size_toArray, bcells_length, hml])
  have HIU := Lib.hid (keyInfo11 hml)
  have HZU := Lib.hid (keySize11 hml)
  have HAU := Lib.hid (bcells_all m)
  obtain ⟨fs2, hfs2⟩ : ∃ t, t = Bk.note fs ([k], [m]) := ⟨_, rfl⟩
  rw [← hfs2] at HNT ⊢
  generalize (bcells m).toArray = cu at HDV HNT HLU HCS HIU HZU HAU ⊢
  generalize (bcells k).toArray = kc at HDV HNT HLD HK32 ⊢
  clear hm2 hml hk h1 h2 hB hbase hX hm hfs2
  go_enter Try.func9, Try.ntmps9
  go_upto_region 0 with fail
  refine wp_region_lit ?_
  refine @BigFrame.wpList_want _ _ _ _ _ _ _ ?hw98001 ?_
  case hw98001 => kernel_rfl
  intro K hK
  go_simp
  refine hK _ _ ?_
  clear hK K
  have kn : Kept w.heap.size w.heap.size w (w.alloc (.cells kc 26)) := (Kept.refl _ _ _).alloc (Nat.le_refl _) _
  have rpb := heap_new w (.cells kc 26)
  have Kw1 := kn
  generalize w.alloc (.cells kc 26) = w1 at kn rpb Kw1  ⊢
  obtain ⟨pb, hpb⟩ : ∃ n, n = w.heap.size := ⟨_, rfl⟩
  rw [← hpb] at rpb
  (try rw [← hpb])
  clear hpb kn
  refine @wpL_alloc _ _ _ _ _ _ _ _ ?hw98002 26 rfl _ (alloc_hash11 _) ?_
  case hw98002 => kernel_rfl
  simp only [Act.put, List.setIfInBounds_toArray, List.set_cons_zero, List.set_cons_succ]
  have kn : Kept w1.heap.size w1.heap.size w1 (w1.alloc (.cells zeros32 26)) := (Kept.refl _ _ _).alloc (Nat.le_refl _) _
  have rrb := heap_new w1 (.cells zeros32 26)
  replace rpb := row_kept rpb kn
  have Kw2 := Kw1.onto kn
  have HRB : Hid (w.heap.size ≤ w1.heap.size) := Lib.hid (Kw1.size)
  generalize w1.alloc (.cells zeros32 26) = w2 at kn rrb Kw2 rpb ⊢
  obtain ⟨rb, hrb⟩ : ∃ n, n = w1.heap.size := ⟨_, rfl⟩
  rw [← hrb] at rrb HRB
  (try rw [← hrb])
  clear hrb kn Kw1
  have Rpb := Lib.hid rpb
  clear rpb
  have Rrb := Lib.hid rrb
  clear rrb
  have KW := Lib.hid Kw2
  clear Kw2
  go_upto_region 1 with fail
  refine wp_region_lit ?_
  refine @wpList_load_known _ _ _ _ _ _ _ ?hw98004 26 (.tmp 5) rfl (pb) (0) rfl (.agg kc) (HLD.out _ _ Rpb.out) ?_
  case hw98004 => kernel_rfl
  simp only [Act.put, List.setIfInBounds_toArray, List.set_cons_zero, List.set_cons_succ]
  refine @BigFrame.wpList_want _ _ _ _ _ _ _ ?hw98005 ?_
  case hw98005 => kernel_rfl
  intro K hK
  go_simp
  refine hK _ _ ?_
  clear hK K
  refine @BigFrame.wpList_want _ _ _ _ _ _ _ ?hw98006 ?_
  case hw98006 => kernel_rfl
  intro K hK
  go_simp
  refine hK _ _ ?_
  clear hK K
  refine @BigFrame.wpList_want _ _ _ _ _ _ _ ?hw98003 ?_
  case hw98003 => kernel_rfl
  intro K hK
  go_simp
  go_at_call 38
  refine (HDV.out _).mono ?_
  rintro e w3 ⟨rfl, k3⟩
  have K3 := Lib.hid (KW.out.onto k3)
  replace Rpb := Lib.hid (row_kept Rpb.out k3)
  replace Rrb := Lib.hid (row_kept Rrb.out k3)
  clear k3 KW
  refine hK _ _ ?_
  clear hK K
  refine @wpL_alloc _ _ _ _ _ _ _ _ ?hw98007 26 rfl _ (alloc_hash11 _) ?_
  case hw98007 => kernel_rfl
  simp only [Act.put, List.setIfInBounds_toArray, List.set_cons_zero, List.set_cons_succ]
  refine wpList_store_row rfl 26 _ _ rfl (w3.heap.size) cu rfl rfl 26 zeros32 (heap_new _ _) (HIU.out) (HZU.out) (HAU.out) ?_
  simp only [Act.put]
  rw [World.setRow_alloc_new]
  have kn : Kept w3.heap.size w3.heap.size w3 (w3.alloc (.cells cu 26)) := (Kept.refl _ _ _).alloc (Nat.le_refl _) _
  have Rmb := Lib.hid (heap_new w3 (.cells cu 26))
  replace Rpb := Lib.hid (row_kept Rpb.out kn)
  replace Rrb := Lib.hid (row_kept Rrb.out kn)
  have K4 := Lib.hid (K3.out.onto kn)
  clear kn K3
  generalize w3.alloc (.cells cu 26) = w4 at Rmb K4 Rpb Rrb ⊢
  generalize w3.heap.size = mb at Rmb ⊢
  go_upto_region 2 with fail
  refine wp_region_lit ?_
  refine @BigFrame.wpList_want _ _ _ _ _ _ _ ?hw98010 ?_
  case hw98010 => kernel_rfl
  intro K hK
  go_simp
  refine hK _ _ ?_
  clear hK K
  refine @wpList_load_known _ _ _ _ _ _ _ ?hw98011 26 (.tmp 5) rfl (pb) (0) rfl (.agg kc) (HLD.out _ _ Rpb.out) ?_
  case hw98011 => kernel_rfl
  simp only [Act.put, List.setIfInBounds_toArray, List.set_cons_zero, List.set_cons_succ]
  refine @BigFrame.wpList_want _ _ _ _ _ _ _ ?hw98008 ?_
  case hw98008 => kernel_rfl
  intro K hK
  refine wp_build_one _ 23 26 rfl i0 z0 Try.underlying23 HI0.out HZ0.out kc rfl (by rw [HS0.out]; exact HK32.out) (by rw [HS0.out]; decide) (by rw [HS0.out]; decide) ?_
  refine hK _ _ ?_
  clear hK K
  simp only [Act.put, List.setIfInBounds_toArray, List.set_cons_zero, List.set_cons_succ]
  have kn : Kept w4.heap.size w4.heap.size w4 (w4.alloc (.cells kc 26)) := (Kept.refl _ _ _).alloc (Nat.le_refl _) _
  have Rga := Lib.hid (heap_new w4 (.cells kc 26))
  replace Rpb := Lib.hid (row_kept Rpb.out kn)
  replace Rrb := Lib.hid (row_kept Rrb.out kn)
  replace Rmb := Lib.hid (row_kept Rmb.out kn)
  have Kw5 := Lib.hid (K4.out.onto kn)
  clear kn K4
  generalize w4.alloc (.cells kc 26) = w5 at Rga Kw5 Rpb Rrb Rmb ⊢
  generalize w4.heap.size = ga at Rga ⊢
  refine @wpList_load_known _ _ _ _ _ _ _ ?hw98012 26 (.tmp 9) rfl (mb) (0) rfl (.agg cu) (HLU.out _ _ Rmb.out) ?_
  case hw98012 => kernel_rfl
  simp only [Act.put, List.setIfInBounds_toArray, List.set_cons_zero, List.set_cons_succ]
  refine @BigFrame.wpList_want _ _ _ _ _ _ _ ?hw98009 ?_
  case hw98009 => kernel_rfl
  intro K hK
  refine wp_build_one _ 23 26 rfl i0 z0 Try.underlying23 HI0.out HZ0.out cu rfl (by rw [HS0.out]; exact HCS.out) (by rw [HS0.out]; decide) (by rw [HS0.out]; decide) ?_
  refine hK _ _ ?_
  clear hK K
  simp only [Act.put, List.setIfInBounds_toArray, List.set_cons_zero, List.set_cons_succ]
  have kn : Kept w5.heap.size w5.heap.size w5 (w5.alloc (.cells cu 26)) := (Kept.refl _ _ _).alloc (Nat.le_refl _) _
  have Rgb := Lib.hid (heap_new w5 (.cells cu 26))
  replace Rpb := Lib.hid (row_kept Rpb.out kn)
  replace Rrb := Lib.hid (row_kept Rrb.out kn)
  replace Rmb := Lib.hid (row_kept Rmb.out kn)
  replace Rga := Lib.hid (row_kept Rga.out kn)
  have Kw6 := Lib.hid (Kw5.out.onto kn)
  clear kn Kw5
  generalize w5.alloc (.cells cu 26) = w6 at Rgb Kw6 Rpb Rrb Rmb Rga ⊢
  generalize w5.heap.size = gb at Rgb ⊢
  have HBX := Lib.hid (HBW.out w6 rb Kw6.out HRB.out (lt_of_block Rrb.out))
  have HNN := Lib.hid (HNT.out w6 rb ga gb HBX.out Kw6.out.size (lt_of_block Rrb.out) Rga.out Rgb.out)
  refine @BigFrame.wpList_want _ _ _ _ _ _ _ ?hw98013 ?_
  case hw98013 => kernel_rfl
  intro K hK
  go_simp
  go_at_call 39
  refine HNN.out.mono ?_
  rintro e w8 ⟨rfl, b8, f8⟩
  refine hK _ _ ?_
  clear hK K
  have R8 := Lib.hid (f8.row Rrb.out)
  have U8 := Lib.hid (f8.row Rmb.out)
  have F8 := Lib.hid ((BkFr.ofKept HBASE.out Kw6.out).trans f8)
  have B8 := Lib.hid b8
  clear f8 b8 HNN HBX
  go_upto_region 3 with fail
  refine wp_region_lit ?_
  refine @wpList_load_known _ _ _ _ _ _ _ ?hw98014 26 (.tmp 9) rfl (mb) (0) rfl (.agg cu) (HLU.out _ _ U8.out) ?_
  case hw98014 => kernel_rfl
  simp only [Act.put, List.setIfInBounds_toArray, List.set_cons_zero, List.set_cons_succ]
  refine wpList_store_row rfl 26 _ _ rfl (rb) cu rfl rfl 26 zeros32 (R8.out) HIU.out HZU.out HAU.out ?_
  simp only [Act.put]
  have R9 := setRow_heap w8 rb zeros32 cu _ _ (R8.out)
  have F9 := Lib.hid (F8.out.put HBASE.out rb HRB.out cu)
  have B9 := Lib.hid ((B8.out.put rb (.inr rfl) zeros32 cu (0, 0) R8.out).less X (fun k hk => .inl hk))
  generalize w8.setRow rb cu = w9 at R9 F9 B9 ⊢
  go_wp2
  refine bodyPost_ret (results_cell_row rfl _ _ rb 26 cu (0, 0) _ rfl R9 Try.underlying26 rfl HIU.out) rfl ?_
  exact ⟨rfl, B9.out, F9.out⟩

set_option maxRecDepth 100000 in
set_option maxHeartbeats 3200000 in
/-- What two secrets make, noted. -/
theorem pnote_two (base bb n : Nat) (fs : Facts) (X : Nat → Prop) (x y : List UInt8) (hx : x.length = 32) (hy : y.length = 32) (outs : List (List UInt8)) (g c : Nat) (b : Value) (w : World) (hB : InBk w base bb fs n X) (hbase : base ≤ w.heap.size) (hX : ∀ k, X k → k < w.heap.size) (hm : Mild fs n) (ho : outs.length < 1000000)
    (hg : w.heap[g]? = some (.cells (bcells x ++ bcells y).toArray 26 (0, 0))) (hb : Hs w b outs) (hw : Whole b) :
    Calls Try.prog 39 #[.pointer (some ⟨bb, 0, none⟩), .slice (some ⟨g, 0, none⟩) 2 c, b] w fun e w' => e = .returned (.tuple #[]) ∧ InBk w' base bb (Bk.note fs ([x, y], outs)) (n + 4) X ∧ BkFr base w w' := by
  have hn : Calls Try.prog 67 #[.pointer (some ⟨bb, 0, none⟩), .agg #[.slice (some ⟨g, 0, none⟩) 2 c, b]] w fun e w' => (∃ E : Int, e = .returned (.int .i64 E)) ∧ InBk w' base bb (Bk.note fs ([x, y], outs)) (n + 4) X ∧ BkFr base w w' := by
    obtain ⟨n', h1, S, h2, h3⟩ := hB
    obtain ⟨m1, m2, m3⟩ := hm
    refine (note_callsX base bb n' fs (fun _ => none) S ([x, y], outs) _ b w h3 hbase (hs_two hx hy hg) hb (fun _ _ e => by cases e) hw (fun w' hf => hs_two hx hy (hf.row hg)) (by omega) m2 m3 (by show 2 < _; decide) ho (by rw [h2]; exact hX)).mono ?_
    rintro e w' ⟨rfl, ⟨n2, hn2, S2, hS2, hB2⟩, hf⟩
    have hl : ([x, y] : List (List UInt8)).length = 2 := rfl
    refine ⟨⟨_, rfl⟩, ⟨n2, ?_, S2, hS2.trans h2, hB2⟩, hf⟩
    have : n2 ≤ n' + 2 + 2 := hn2
    omega
  obtain ⟨zp1, bad, bg, bo, bc, rfl, zp2⟩ := id hb
  clear zp1 zp2 hB hbase hX hm ho hg hb hw
  have HN := Lib.hid hn
  clear hn
  go_enter Try.func39, Try.ntmps39
  go_wp2_with (go_at_call 67; refine HN.out.mono ?_; rintro e w2 ⟨⟨E, rfl⟩, k2, f2⟩)
  go_end0
  exact ⟨rfl, k2, f2⟩


set_option maxRecDepth 100000 in
set_option maxHeartbeats 6400000 in
theorem mix_bookX (base bb n : Nat) (fs : Facts) (X : Nat → Prop) (q k : List UInt8) (hq : q.length = 32) (hk : k.length = 32) (w : World) (hB : InBk w base bb fs n X) (hbase : base ≤ w.heap.size) (hX : ∀ k, X k → k < w.heap.size) (hm : Mild fs n) :
    Calls Try.prog 10 #[.pointer (some ⟨bb, 0, none⟩), .agg (bcells q).toArray, .agg (bcells k).toArray] w fun e w' => e = .returned (.agg (bcells (Mc.code q k)).toArray) ∧ InBk w' base bb (Bk.note fs ([q, k], [Mc.code q k])) (n + 4) X ∧ BkFr base w w' := by
  obtain ⟨m, hm2⟩ : ∃ m, m = Mc.code q k := ⟨_, rfl⟩
  have hml : m.length = 32 := by rw [hm2]; exact Mc.code_length _ _
  obtain ⟨i0, z0, hi0, hz0, hzs0, hs0, hb0⟩ := hash_info
  have HI0 := Lib.hid hi0
  have HZ0 := Lib.hid hz0
  have HS0 := Lib.hid hs0
  clear hi0 hz0 hzs0 hs0 hb0
  have HDV := Lib.hid (fun x => macmix_calls q k (Lib.hid hq) (Lib.hid hk) x)
  rw [← hm2] at HDV ⊢
  have HBASE := Lib.hid hbase
  have HBW := Lib.hid (fun (x : World) (rb : Nat) (kx : Kept w.heap.size w.heap.size w x) (hrb : w.heap.size ≤ rb) (_ : rb < x.heap.size) => (hB.freshOr (fun i => i = rb) (fun i hi => by omega)).kept kx)
  have HNT := Lib.hid (fun (x : World) (rb ga gb : Nat) (hI : InBk x base bb fs n (fun i => X i ∨ i = rb)) (hs : w.heap.size ≤ x.heap.size) (hrb : rb < x.heap.size) (hga : x.heap[ga]? = some (.cells ((bcells q).toArray ++ (bcells k).toArray) 26 (0, 0))) (hgb : x.heap[gb]? = some (.cells (bcells m).toArray 26 (0, 0))) =>
    pnote_two base bb n fs _ q k hq hk [m] ga 2 (.slice (some ⟨gb, 0, none⟩) 1 1) x hI (Nat.le_trans hbase hs) (fun i hi => hi.elim (fun h => Nat.lt_of_lt_of_le (hX i h) hs) (fun h => by rw [h]; exact hrb)) hm (by show 1 < _; decide) (by rw [List.append_toArray] at hga; exact hga) (hs_one hml hgb) (fun _ _ e => by cases e))
  have HLQ := Lib.hid (fun (u : World) (b : Nat) (h : u.heap[b]? = some (.cells (bcells q).toArray 26 (0, 0))) => load_hash11 hq h)
  have HLD := Lib.hid (fun (u : World) (b : Nat) (h : u.heap[b]? = some (.cells (bcells k).toArray 26 (0, 0))) => load_hash11 hk h)
  have HLU := Lib.hid (fun (u : World) (b : Nat) (h : u.heap[b]? = some (.cells (bcells m).toArray 26 (0, 0))) => load_hash11 hml h)
  have HA32 := Lib.hid (show (bcells q).toArray.size = 32 by rw [List.size_toArray, bcells_length, hq])
  have HK32 := Lib.hid (show (bcells k).toArray.size = 32 by rw [List.size_toArray, bcells_length, hk])
  have HCS := Lib.hid (show (bcells m).toArray.size = 32 by rw [List.size_toArray, bcells_length, hml])
  have HIU := Lib.hid (keyInfo11 hml)
  have HZU := Lib.hid (keySize11 hml)
  have HAU := Lib.hid (bcells_all m)
  obtain ⟨fs2, hfs2⟩ : ∃ t, t = Bk.note fs ([q, k], [m]) := ⟨_, rfl⟩
  rw [← hfs2] at HNT ⊢
  generalize (bcells m).toArray = cu at HDV HNT HLU HCS HIU HZU HAU ⊢
  generalize (bcells k).toArray = kc at HDV HNT HLD HK32 ⊢
  generalize (bcells q).toArray = ac at HDV HNT HLQ HA32 ⊢
  clear hm2 hml hq hk hB hbase hX hm hfs2
  go_enter Try.func10, Try.ntmps10
  go_upto_region 0 with fail
  refine wp_region_lit ?_
  refine @BigFrame.wpList_want _ _ _ _ _ _ _ ?hw98401 ?_
  case hw98401 => kernel_rfl
  intro K hK
  go_simp
  refine hK _ _ ?_
  clear hK K
  have kn : Kept w.heap.size w.heap.size w (w.alloc (.cells ac 26)) := (Kept.refl _ _ _).alloc (Nat.le_refl _) _
  have rqb := heap_new w (.cells ac 26)
  have Kw1 := kn
  generalize w.alloc (.cells ac 26) = w1 at kn rqb Kw1  ⊢
  obtain ⟨qb, hqb⟩ : ∃ n, n = w.heap.size := ⟨_, rfl⟩
  rw [← hqb] at rqb
  (try rw [← hqb])
  clear hqb kn
  refine @BigFrame.wpList_want _ _ _ _ _ _ _ ?hw98402 ?_
  case hw98402 => kernel_rfl
  intro K hK
  go_simp
  refine hK _ _ ?_
  clear hK K
  have kn : Kept w1.heap.size w1.heap.size w1 (w1.alloc (.cells kc 26)) := (Kept.refl _ _ _).alloc (Nat.le_refl _) _
  have rpb := heap_new w1 (.cells kc 26)
  replace rqb := row_kept rqb kn
  have Kw2 := Kw1.onto kn
  generalize w1.alloc (.cells kc 26) = w2 at kn rpb Kw2 rqb ⊢
  obtain ⟨pb, hpb⟩ : ∃ n, n = w1.heap.size := ⟨_, rfl⟩
  rw [← hpb] at rpb
  (try rw [← hpb])
  clear hpb kn Kw1
  refine @wpL_alloc _ _ _ _ _ _ _ _ ?hw98403 26 rfl _ (alloc_hash11 _) ?_
  case hw98403 => kernel_rfl
  simp only [Act.put, List.setIfInBounds_toArray, List.set_cons_zero, List.set_cons_succ]
  have kn : Kept w2.heap.size w2.heap.size w2 (w2.alloc (.cells zeros32 26)) := (Kept.refl _ _ _).alloc (Nat.le_refl _) _
  have rrb := heap_new w2 (.cells zeros32 26)
  replace rqb := row_kept rqb kn
  replace rpb := row_kept rpb kn
  have Kw3 := Kw2.onto kn
  have HRB : Hid (w.heap.size ≤ w2.heap.size) := Lib.hid (Kw2.size)
  generalize w2.alloc (.cells zeros32 26) = w3 at kn rrb Kw3 rqb rpb ⊢
  obtain ⟨rb, hrb⟩ : ∃ n, n = w2.heap.size := ⟨_, rfl⟩
  rw [← hrb] at rrb HRB
  (try rw [← hrb])
  clear hrb kn Kw2
  have Rqb := Lib.hid rqb
  clear rqb
  have Rpb := Lib.hid rpb
  clear rpb
  have Rrb := Lib.hid rrb
  clear rrb
  have KW := Lib.hid Kw3
  clear Kw3
  go_upto_region 1 with fail
  refine wp_region_lit ?_
  refine @wpList_load_known _ _ _ _ _ _ _ ?hw98405 26 (.tmp 4) rfl (qb) (0) rfl (.agg ac) (HLQ.out _ _ Rqb.out) ?_
  case hw98405 => kernel_rfl
  simp only [Act.put, List.setIfInBounds_toArray, List.set_cons_zero, List.set_cons_succ]
  refine @wpList_load_known _ _ _ _ _ _ _ ?hw98406 26 (.tmp 5) rfl (pb) (0) rfl (.agg kc) (HLD.out _ _ Rpb.out) ?_
  case hw98406 => kernel_rfl
  simp only [Act.put, List.setIfInBounds_toArray, List.set_cons_zero, List.set_cons_succ]
  refine @BigFrame.wpList_want _ _ _ _ _ _ _ ?hw98404 ?_
  case hw98404 => kernel_rfl
  intro K hK
  go_simp
  go_at_call 40
  refine (HDV.out _).mono ?_
  rintro e w3 ⟨rfl, k3⟩
  have K3 := Lib.hid (KW.out.onto k3)
  replace Rqb := Lib.hid (row_kept Rqb.out k3)
  replace Rpb := Lib.hid (row_kept Rpb.out k3)
  replace Rrb := Lib.hid (row_kept Rrb.out k3)
  clear k3 KW
  refine hK _ _ ?_
  clear hK K
  refine @wpL_alloc _ _ _ _ _ _ _ _ ?hw98407 26 rfl _ (alloc_hash11 _) ?_
  case hw98407 => kernel_rfl
  simp only [Act.put, List.setIfInBounds_toArray, List.set_cons_zero, List.set_cons_succ]
  refine wpList_store_row rfl 26 _ _ rfl (w3.heap.size) cu rfl rfl 26 zeros32 (heap_new _ _) (HIU.out) (HZU.out) (HAU.out) ?_
  simp only [Act.put]
  rw [World.setRow_alloc_new]
  have kn : Kept w3.heap.size w3.heap.size w3 (w3.alloc (.cells cu 26)) := (Kept.refl _ _ _).alloc (Nat.le_refl _) _
  have Rmb := Lib.hid (heap_new w3 (.cells cu 26))
  replace Rqb := Lib.hid (row_kept Rqb.out kn)
  replace Rpb := Lib.hid (row_kept Rpb.out kn)
  replace Rrb := Lib.hid (row_kept Rrb.out kn)
  have K4 := Lib.hid (K3.out.onto kn)
  clear kn K3
  generalize w3.alloc (.cells cu 26) = w4 at Rmb K4 Rqb Rpb Rrb ⊢
  generalize w3.heap.size = mb at Rmb ⊢
  go_upto_region 2 with fail
  refine wp_region_lit ?_
  refine @BigFrame.wpList_want _ _ _ _ _ _ _ ?hw98410 ?_
  case hw98410 => kernel_rfl
  intro K hK
  go_simp
  refine hK _ _ ?_
  clear hK K
  refine @wpList_load_known _ _ _ _ _ _ _ ?hw98411 26 (.tmp 4) rfl (qb) (0) rfl (.agg ac) (HLQ.out _ _ Rqb.out) ?_
  case hw98411 => kernel_rfl
  simp only [Act.put, List.setIfInBounds_toArray, List.set_cons_zero, List.set_cons_succ]
  refine @wpList_load_known _ _ _ _ _ _ _ ?hw98412 26 (.tmp 5) rfl (pb) (0) rfl (.agg kc) (HLD.out _ _ Rpb.out) ?_
  case hw98412 => kernel_rfl
  simp only [Act.put, List.setIfInBounds_toArray, List.set_cons_zero, List.set_cons_succ]
  refine @wpList_build_two_g _ _ _ _ _ _ _ ?hw98408 (.tmp 12) (.tmp 13) 23 26 rfl i0 z0 Try.underlying23 HI0.out HZ0.out ac kc rfl rfl (by rw [HS0.out]; exact HA32.out) (by rw [HS0.out]; exact HK32.out) (by rw [HS0.out]; decide) (by rw [HS0.out]; decide) ?_
  case hw98408 => kernel_rfl
  simp only [Act.put, List.setIfInBounds_toArray, List.set_cons_zero, List.set_cons_succ]
  have kn : Kept w4.heap.size w4.heap.size w4 (w4.alloc (.cells (ac ++ kc) 26)) := (Kept.refl _ _ _).alloc (Nat.le_refl _) _
  have Rga := Lib.hid (heap_new w4 (.cells (ac ++ kc) 26))
  replace Rrb := Lib.hid (row_kept Rrb.out kn)
  replace Rmb := Lib.hid (row_kept Rmb.out kn)
  have Kw5 := Lib.hid (K4.out.onto kn)
  clear kn K4
  generalize w4.alloc (.cells (ac ++ kc) 26) = w5 at Rga Kw5 Rrb Rmb ⊢
  generalize w4.heap.size = ga at Rga ⊢
  refine @wpList_load_known _ _ _ _ _ _ _ ?hw98413 26 (.tmp 7) rfl (mb) (0) rfl (.agg cu) (HLU.out _ _ Rmb.out) ?_
  case hw98413 => kernel_rfl
  simp only [Act.put, List.setIfInBounds_toArray, List.set_cons_zero, List.set_cons_succ]
  refine @BigFrame.wpList_want _ _ _ _ _ _ _ ?hw98409 ?_
  case hw98409 => kernel_rfl
  intro K hK
  refine wp_build_one _ 23 26 rfl i0 z0 Try.underlying23 HI0.out HZ0.out cu rfl (by rw [HS0.out]; exact HCS.out) (by rw [HS0.out]; decide) (by rw [HS0.out]; decide) ?_
  refine hK _ _ ?_
  clear hK K
  simp only [Act.put, List.setIfInBounds_toArray, List.set_cons_zero, List.set_cons_succ]
  have kn : Kept w5.heap.size w5.heap.size w5 (w5.alloc (.cells cu 26)) := (Kept.refl _ _ _).alloc (Nat.le_refl _) _
  have Rgb := Lib.hid (heap_new w5 (.cells cu 26))
  replace Rrb := Lib.hid (row_kept Rrb.out kn)
  replace Rmb := Lib.hid (row_kept Rmb.out kn)
  replace Rga := Lib.hid (row_kept Rga.out kn)
  have Kw6 := Lib.hid (Kw5.out.onto kn)
  clear kn Kw5
  generalize w5.alloc (.cells cu 26) = w6 at Rgb Kw6 Rrb Rmb Rga ⊢
  generalize w5.heap.size = gb at Rgb ⊢
  have HBX := Lib.hid (HBW.out w6 rb Kw6.out HRB.out (lt_of_block Rrb.out))
  have HNN := Lib.hid (HNT.out w6 rb ga gb HBX.out Kw6.out.size (lt_of_block Rrb.out) Rga.out Rgb.out)
  refine @BigFrame.wpList_want _ _ _ _ _ _ _ ?hw98414 ?_
  case hw98414 => kernel_rfl
  intro K hK
  go_simp
  go_at_call 39
  refine HNN.out.mono ?_
  rintro e w8 ⟨rfl, b8, f8⟩
  refine hK _ _ ?_
  clear hK K
  have R8 := Lib.hid (f8.row Rrb.out)
  have U8 := Lib.hid (f8.row Rmb.out)
  have F8 := Lib.hid ((BkFr.ofKept HBASE.out Kw6.out).trans f8)
  have B8 := Lib.hid b8
  clear f8 b8 HNN HBX
  go_upto_region 3 with fail
  refine wp_region_lit ?_
  refine @wpList_load_known _ _ _ _ _ _ _ ?hw98415 26 (.tmp 7) rfl (mb) (0) rfl (.agg cu) (HLU.out _ _ U8.out) ?_
  case hw98415 => kernel_rfl
  simp only [Act.put, List.setIfInBounds_toArray, List.set_cons_zero, List.set_cons_succ]
  refine wpList_store_row rfl 26 _ _ rfl (rb) cu rfl rfl 26 zeros32 (R8.out) HIU.out HZU.out HAU.out ?_
  simp only [Act.put]
  have R9 := setRow_heap w8 rb zeros32 cu _ _ (R8.out)
  have F9 := Lib.hid (F8.out.put HBASE.out rb HRB.out cu)
  have B9 := Lib.hid ((B8.out.put rb (.inr rfl) zeros32 cu (0, 0) R8.out).less X (fun k hk => .inl hk))
  generalize w8.setRow rb cu = w9 at R9 F9 B9 ⊢
  go_wp2
  refine bodyPost_ret (results_cell_row rfl _ _ rb 26 cu (0, 0) _ rfl R9 Try.underlying26 rfl HIU.out) rfl ?_
  exact ⟨rfl, B9.out, F9.out⟩

end Go.Proofs.Ytohichignjjleaa

namespace Go.Proofs.Ytohichignjjleaa
open Go.RowKit Go.Lib

/-! ## An act as a block. -/
def actCellsOf (x : Ac) (sv : Value) : List Value := .int .u8 x.kind :: (bcells x.a ++ (bcells x.b ++ [.string x.text, sv]))
theorem actCellsOf_length (x : Ac) (sv : Value) (ha : x.a.length = 32) (hb : x.b.length = 32) : (actCellsOf x sv).length = 67 := by
  simp [actCellsOf, bcells_length, ha, hb]
theorem actCellsOf_at (x : Ac) (sv : Value) (ha : x.a.length = 32) (hb : x.b.length = 32) : (actCellsOf x sv)[0]? = some (.int .u8 x.kind) ∧ (∀ j v, (bcells x.a)[j]? = some v → (actCellsOf x sv)[1 + j]? = some v) ∧ (∀ j v, (bcells x.b)[j]? = some v → (actCellsOf x sv)[33 + j]? = some v) ∧ (actCellsOf x sv)[65]? = some (.string x.text) ∧ (actCellsOf x sv)[66]? = some sv := by
  have la : (bcells x.a).length = 32 := by rw [bcells_length, ha]
  have lb : (bcells x.b).length = 32 := by rw [bcells_length, hb]
  have lt_of : ∀ (l : List Value) (j : Nat) (v : Value), l[j]? = some v → j < l.length := fun l j v h => by
    rcases Nat.lt_or_ge j l.length with h1 | h1
    · exact h1
    · rw [List.getElem?_eq_none h1] at h; cases h
  refine ⟨rfl, fun j v hv => ?_, fun j v hv => ?_, ?_, ?_⟩
  · have := lt_of _ _ _ hv
    rw [actCellsOf, Nat.add_comm 1 j, List.getElem?_cons_succ, List.getElem?_append_left (by omega)]
    exact hv
  · have := lt_of _ _ _ hv
    rw [actCellsOf, show 33 + j = (32 + j) + 1 by omega, List.getElem?_cons_succ, List.getElem?_append_right (by omega), la, List.getElem?_append_left (by omega), show 32 + j - 32 = j by omega]
    exact hv
  · rw [actCellsOf, List.getElem?_cons_succ, List.getElem?_append_right (by omega), la, List.getElem?_append_right (by omega), lb]
    rfl
  · rw [actCellsOf, List.getElem?_cons_succ, List.getElem?_append_right (by omega), la, List.getElem?_append_right (by omega), lb]
    rfl
/-- An act of a slice, whole. -/
theorem As.whole {w : World} {ad : Option Addr} {n c : Nat} {L : List Ac} (h : As w (.slice ad n c) L) (i : Nat) (hi : i < L.length) : ∃ g o sv, ad = some ⟨g, o, none⟩ ∧ g < w.heap.size ∧ w.rangeAt g (o + i * 67) (actCellsOf L[i] sv) ∧ Hs w sv L[i].secs ∧ Whole sv ∧ L[i].a.length = 32 ∧ L[i].b.length = 32 ∧ L[i].text.size ≤ maxLen := by
  obtain ⟨h0, ad', g, o, c', e, h1⟩ := h
  cases e
  obtain ⟨rfl, hg, h2, h3, h4, h5, sv, h6, h7, h8⟩ := h1 i hi
  obtain ⟨ha, hb, ht⟩ := h0 _ (List.getElem_mem hi)
  refine ⟨g, o, sv, rfl, hg, fun j u hu => ?_, h7, h8, ha, hb, ht⟩
  have la : (bcells L[i].a).length = 32 := by rw [bcells_length, ha]
  have lb : (bcells L[i].b).length = 32 := by rw [bcells_length, hb]
  rcases Nat.eq_zero_or_pos j with rfl | hj
  · cases hu
    exact h2
  obtain ⟨j, rfl⟩ : ∃ k, j = k + 1 := ⟨j - 1, by omega⟩
  rw [actCellsOf, List.getElem?_cons_succ] at hu
  rcases Nat.lt_or_ge j 32 with hj1 | hj1
  · rw [List.getElem?_append_left (by omega)] at hu
    have := h3 j u hu
    rw [show o + i * 67 + (j + 1) = o + i * 67 + 1 + j by omega]
    exact this
  · rw [List.getElem?_append_right (by omega), la] at hu
    rcases Nat.lt_or_ge j 64 with hj2 | hj2
    · rw [List.getElem?_append_left (by omega)] at hu
      have := h4 (j - 32) u hu
      rw [show o + i * 67 + (j + 1) = o + i * 67 + 33 + (j - 32) by omega]
      exact this
    · rw [List.getElem?_append_right (by omega), lb] at hu
      rcases Nat.eq_or_lt_of_le hj2 with e | e
      · obtain rfl : j = 64 := e.symm
        cases hu
        exact h5
      · rcases Nat.eq_or_lt_of_le (show 65 ≤ j from e) with e2 | e2
        · obtain rfl : j = 65 := e2.symm
          cases hu
          exact h6
        · rw [List.getElem?_eq_none (by simp; omega)] at hu
          cases hu
theorem actInfo : (Try.prog.info? 28).map (·.size) = some 67 := by kernel_rfl
/-- What an act's block says. -/
structure ActAt (w : World) (xb : Nat) (x : Ac) (sv : Value) : Prop where
  kind : w.cell? ⟨xb, 0, none⟩ = some (.int .u8 x.kind)
  a : w.rangeAt xb 1 (bcells x.a)
  b : w.rangeAt xb 33 (bcells x.b)
  text : w.cell? ⟨xb, 65, none⟩ = some (.string x.text)
  secs : w.cell? ⟨xb, 66, none⟩ = some sv
theorem act_at {w : World} {xb : Nat} {x : Ac} {sv : Value} (ha : x.a.length = 32) (hb : x.b.length = 32) (h : w.heap[xb]? = some (.cells (actCellsOf x sv).toArray 28 (0, 0))) : ActAt w xb x sv := by
  have hc : ∀ j v, (actCellsOf x sv)[j]? = some v → w.cell? ⟨xb, j, none⟩ = some v := fun j v hv => by
    rw [cell_of_row w xb j _ _ _ h, List.getElem?_toArray]
    exact hv
  obtain ⟨h0, h1, h2, h3, h4⟩ := actCellsOf_at x sv ha hb
  exact ⟨hc 0 _ h0, fun j v hv => hc _ _ (h1 j v hv), fun j v hv => hc _ _ (h2 j v hv), hc 65 _ h3, hc 66 _ h4⟩

/-! ## The statement's own. -/
namespace Pm
/-- The facts that an act makes. -/
def facts (x : Ac) : Facts :=
  if x.kind.tmod 5 = 0 then [([x.a], [Mc.derive x.a x.text.data.toList []])]
  else if x.kind.tmod 5 = 1 then [([x.a, x.b], [Mc.code x.a x.b])]
  else if x.kind.tmod 5 = 2 then [([x.a], [mark (pub x.a)])]
  else if x.kind.tmod 5 = 3 then [([x.a], x.secs)]
  else if x.kind.tmod 5 = 4 then [([mark (pub x.a)], [kem (pub x.a) x.b]), ([x.b], [kem (pub x.a) x.b]), ([kem (pub x.a) x.b], x.secs)]
  else []
def noted (gs : Facts) (M : List Ac) : Facts := (M.map facts).flatten.foldl Bk.note gs
theorem noted_more (L : List Ac) (k : Nat) (h : k < L.length) : noted [] (L.take (k + 1)) = (facts L[k]).foldl Bk.note (noted [] (L.take k)) := by
  rw [List.take_succ_eq_append_getElem h, noted, noted, List.map_append, List.flatten_append, List.foldl_append]
  simp
theorem facts_map (L : List Ac) (k : Nat) (h : k < L.length) : (L.take (k + 1)).map facts = (L.take k).map facts ++ [facts L[k]] := by
  rw [List.take_succ_eq_append_getElem h, List.map_append]
  rfl
theorem facts_length (x : Ac) : (facts x).length ≤ 3 := by
  unfold facts
  repeat' split
  all_goals simp
theorem facts_mem (x : Ac) (f) (h : f ∈ facts x) : f.1.length ≤ 2 ∧ f.2.length ≤ x.secs.length + 1 := by
  unfold facts at h
  repeat' split at h
  all_goals simp at h
  all_goals first | (rcases h with rfl | rfl | rfl <;> simp) | (subst h; simp) | cases h
theorem fold_length : ∀ (F gs : Facts), (F.foldl Bk.note gs).length ≤ gs.length + F.length
  | [], gs => Nat.le_refl _
  | f :: F, gs => by
    have h1 := fold_length F (Bk.note gs f)
    have h2 := bknote_length gs f
    simp only [List.foldl_cons, List.length_cons]
    omega
theorem fold_mem (g : List (List UInt8) × List (List UInt8)) : ∀ (F gs : Facts), g ∈ F.foldl Bk.note gs → g ∈ gs ∨ g ∈ F
  | [], gs, h => .inl h
  | f :: F, gs, h => by
    rcases fold_mem g F (Bk.note gs f) h with h | h
    · rcases bknote_mem _ _ _ h with h | rfl
      · exact .inl h
      · exact .inr (by simp)
    · exact .inr (by simp [h])
/-- How much there is at most. -/
theorem noted_few (M : List Ac) (hM : ∀ x ∈ M, x.secs.length ≤ 40) : (noted [] M).length ≤ 3 * M.length ∧ ∀ f ∈ noted [] M, f.1.length ≤ 2 ∧ f.2.length ≤ 41 := by
  have hl : ∀ M : List Ac, (M.map facts).flatten.length ≤ 3 * M.length := fun M => by
    induction M with
    | nil => simp
    | cons x M ih =>
      have := facts_length x
      simp only [List.map_cons, List.flatten_cons, List.length_append, List.length_cons]
      omega
  refine ⟨?_, fun f hf => ?_⟩
  · have h1 := fold_length (M.map facts).flatten []
    have h2 := hl M
    simp only [List.length_nil] at h1
    unfold noted
    omega
  · rcases fold_mem f _ _ hf with h | h
    · cases h
    · obtain ⟨l, hl, hfl⟩ := List.mem_flatten.1 h
      obtain ⟨x, hx, rfl⟩ := List.mem_map.1 hl
      have h1 := facts_mem x f hfl
      have h2 := hM x hx
      omega
end Pm
/-- The book, and the document's rows of facts, while acts are gone through. -/
structure Pn (w : World) (b2 bb n : Nat) (gs : Facts) (x : World) (v : Value) (LL : List Facts) : Prop where
  kp : Kept w.heap.size w.heap.size w x
  bk : InBook x b2 bb gs n
  nn : OwnN x b2 v LL
  hb : w.heap.size ≤ b2
  hb2 : b2 ≤ x.heap.size
section
variable {w x x' : World} {b2 bb n n' : Nat} {gs gs' : Facts} {v : Value} {LL : List Facts}
theorem Pn.kept (h : Pn w b2 bb n gs x v LL) (k : Kept x.heap.size x.heap.size x x') : Pn w b2 bb n gs x' v LL :=
  ⟨h.kp.onto k, h.bk.kept k, h.nn.kept k, h.hb, Nat.le_trans h.hb2 k.size⟩
theorem Pn.book (h : Pn w b2 bb n gs x v LL) (hB : InBook x' b2 bb gs' n') (f : BkFr b2 x x') : Pn w b2 bb n' gs' x' v LL :=
  ⟨h.kp.trans (f.kept.mono h.hb (fun _ hi _ => Nat.ne_of_lt (Nat.lt_of_lt_of_le hi h.hb))), hB, h.nn.bk f, h.hb, Nat.le_trans h.hb2 f.kept.size⟩
theorem Pn.more (h : Pn w b2 bb n gs x v LL) {F : Facts} {v' : Value} (hN : OwnN x' b2 v' (LL ++ [F])) (hg : x.grownBy x' v.ownBlock) (hs : StayG 31 x x') : Pn w b2 bb n gs x' v' (LL ++ [F]) :=
  ⟨h.kp.grown hg (Nat.le_trans h.hb h.hb2) (fun k hk => Nat.le_trans h.hb (h.nn.lt k hk).1), h.bk.stayG hs (by decide) (by decide) (by decide) (by decide), hN, h.hb, Nat.le_trans h.hb2 hg.size⟩
end

theorem build_nn0 (w : World) : (Instr.buildSlice 32 0 #[]).run Try.prog w = .ok (.slice (some ⟨w.heap.size, 0, none⟩) 0 0) (w.alloc (.cells #[] 31)) := by kernel_rfl
theorem build_nn1 (w : World) (ad : Option Addr) {n c : Nat} : (Instr.buildSlice 32 1 #[(0, .slice ad n c)]).run Try.prog w = .ok (.slice (some ⟨w.heap.size, 0, none⟩) 1 1) (w.alloc (.cells #[.slice ad n c] 31)) := by kernel_rfl
theorem own_nn0 (w : World) (b2 : Nat) (h : b2 ≤ w.heap.size) : OwnN (w.alloc (.cells #[] 31)) b2 (.slice (some ⟨w.heap.size, 0, none⟩) 0 0) [] :=
  ⟨[], rfl, ⟨rfl, .inr ⟨_, 0, _, rfl, h, heap_new _ _, Nat.le_refl _, by unfold maxLen; omega, rfl, rfl⟩⟩, fun i hi => absurd hi (Nat.not_lt_zero _)⟩
theorem two_cellN {w : World} {b : Nat} {x : Value} {t : TypeId} (h : w.heap[b]? = some (.cells #[x] t (0, 0))) : w.cell? ⟨b, 0, none⟩ = some x := by simp [World.cell?, h]
def zeroAct : Array Value := (actCellsOf ⟨0, List.replicate 32 0, List.replicate 32 0, ⟨#[]⟩, []⟩ (.slice none 0 0)).toArray
theorem zeroAct_size : zeroAct.size = 67 := by decide
set_option maxRecDepth 100000 in
theorem alloc_act5 (w : World) : (Instr.alloc 28 true (.tuple #[])).run Try.prog w = .ok (.pointer (some ⟨w.heap.size, 0, none⟩)) (w.alloc (.cells zeroAct 28)) := by kernel_rfl
theorem actCellsOf_all (x : Ac) (ad : Option Addr) (n c : Nat) : (actCellsOf x (.slice ad n c)).toArray.all (·.oneCell') = true := by
  rw [Array.all_eq_true_iff_forall_mem]
  intro v hv
  simp only [actCellsOf, List.mem_toArray, List.mem_cons, List.mem_append, List.not_mem_nil, or_false] at hv
  rcases hv with rfl | h | h | rfl | rfl
  · rfl
  · exact bcells_one _ v h
  · exact bcells_one _ v h
  · rfl
  · rfl
/-- Keys of keys, noted in a book. -/
theorem derive_b5 (base bb n : Nat) (fs : Facts) (k : List UInt8) (hk : k.length = 32) (label context : ByteArray) (h1 : label.size < 268435456) (h2 : context.size < 268435456) (w : World) (hB : InBook w base bb fs n) (hbase : base ≤ w.heap.size) (hm : Mild fs n) :
    Calls Try.prog 9 #[.pointer (some ⟨bb, 0, none⟩), .agg (bcells k).toArray, .string label, .string context] w fun e w' => e = .returned (.agg (bcells (Mc.derive k label.data.toList context.data.toList)).toArray) ∧ InBook w' base bb (Bk.note fs ([k], [Mc.derive k label.data.toList context.data.toList])) (n + 3) ∧ BkFr base w w' :=
  (derive_bookX base bb n fs (fun _ => False) k hk label context h1 h2 w (hB.apart _ (fun _ h => h.elim)) hbase (fun _ h => h.elim) hm).mono fun _ _ h => ⟨h.1, h.2.1.book, h.2.2⟩
theorem mix_b5 (base bb n : Nat) (fs : Facts) (q k : List UInt8) (hq : q.length = 32) (hk : k.length = 32) (w : World) (hB : InBook w base bb fs n) (hbase : base ≤ w.heap.size) (hm : Mild fs n) :
    Calls Try.prog 10 #[.pointer (some ⟨bb, 0, none⟩), .agg (bcells q).toArray, .agg (bcells k).toArray] w fun e w' => e = .returned (.agg (bcells (Mc.code q k)).toArray) ∧ InBook w' base bb (Bk.note fs ([q, k], [Mc.code q k])) (n + 4) ∧ BkFr base w w' :=
  (mix_bookX base bb n fs (fun _ => False) q k hq hk w (hB.apart _ (fun _ h => h.elim)) hbase (fun _ h => h.elim) hm).mono fun _ _ h => ⟨h.1, h.2.1.book, h.2.2⟩

theorem Pn.world {w x x' : World} {b2 bb n : Nat} {gs : Facts} {v : Value} {LL : List Facts} (h : Pn w b2 bb n gs x v LL) (f : BkFr b2 x x') : Kept w.heap.size w.heap.size w x' := h.kp.trans (f.kept.mono h.hb (fun _ hi _ => Nat.ne_of_lt (Nat.lt_of_lt_of_le hi h.hb)))
theorem wp_allocN {P : Program} {o : Oper} {a : Act} {w w' : World} {K : Act → World → Prop} {Q : Exit → Act → World → Prop} (t : TypeId) (ho : o.op = .alloc t) {u : Value} (hr : (Instr.alloc t true (.tuple #[])).run P w = .ok u w') (hk : K (a.put o.dst u) w') : o.wp P a w K Q := by
  unfold Oper.wp execOp
  simp only [ho, Sem.run_bind, hr, Result.andThen_ok, Sem.run_pure]
  exact hk
theorem fold_flat (LX : List Facts) (i : Nat) (h : i < LX.length) : (LX.take (i + 1)).flatten.foldl Bk.note [] = (LX[i]).foldl Bk.note ((LX.take i).flatten.foldl Bk.note []) := by
  rw [List.take_succ_eq_append_getElem h, List.flatten_append, List.foldl_append]
  simp
theorem fold_take (F G : Facts) (k : Nat) (h : k < F.length) : (F.take (k + 1)).foldl Bk.note G = Bk.note ((F.take k).foldl Bk.note G) F[k] := by
  rw [List.take_succ_eq_append_getElem h, List.foldl_append]
  rfl

end Go.Proofs.Ytohichignjjleaa
