/-
  ChgStore; ChgSign; ChgCheck; ChgPack; ChgAwake: several texts in one.
-/
import Derived.Test.YtcjcomeakkjiiaaDoorIC
import Derived.Test.YtcjcomeakkjiiaaDoorChgRefRight
import Derived.Test.YtcjcomeakkjiiaaDoorIB
import Derived.Test.YtcjcomeakkjiiaaDoorGL
import Derived.Test.YtcjcomeakkjiiaaDoorGA

namespace Go.Proofs.YtcjcomeakkjiiaaDoor
open Go.RowKit Go.Lib

namespace Cm
def signed (p : Cg) (v : List UInt8) : Cg := { p with sign := Pm.sign v (text p) }
def checks (p : Cg) (v : List UInt8) : Bool := right p && p.sign == Pm.sign v (text p)
theorem signed_ok {p : Cg} (h : p.Ok) (v : List UInt8) : (signed p v).Ok := ⟨h.1, h.2.1, Pm.sign_length _ _⟩
theorem right_signed (p : Cg) (v : List UInt8) : right (signed p v) = right p := rfl
theorem text_signed (p : Cg) (v : List UInt8) : text (signed p v) = text p := rfl
theorem checks_signed {p : Cg} (h : right p = true) (v : List UInt8) : checks (signed p v) v = true := by
  unfold checks
  rw [right_signed, text_signed, h, Bool.true_and]
  exact beq_self_eq_true _
theorem text_le {p : Cg} (h : p.Ok) : (text p).length ≤ 104 := by
  have := Wm.enc_length_le p.depth.toNat
  have := Wm.enc_length_le p.author.toNat
  have := Wm.enc_length_le p.seq.toNat
  have := Wm.enc_length_le p.kind.toNat
  have := Wm.enc_length_le p.name.toNat
  simp only [text, List.length_append, h.1, h.2.1]
  omega
end Cm
theorem str_back (l : List UInt8) : (str l).data.toList = l := by simp []
theorem Tab.onto {w x : World} (h : Tab w) (k : Kept w.heap.size w.heap.size w x) : Tab x := h.kept k h.lt h.lt
theorem kept_setCells {w : World} (b : Nat) (hb : w.heap.size ≤ b) : ∀ (vs : List Value) (o : Nat) (x : World), Kept w.heap.size w.heap.size w x → Kept w.heap.size w.heap.size w (x.setCells b o vs)
  | [], _, _, h => h
  | v :: r, o, _, h => kept_setCells b hb r (o + 1) _ (h.set (.inr hb) o v)
theorem heap_setCells10 {b i : Nat} (hne : i ≠ b) : ∀ (vs : List Value) (o : Nat) (x : World), (x.setCells b o vs).heap[i]? = x.heap[i]?
  | [], _, _ => rfl
  | _ :: r, o, _ => (heap_setCells10 hne r (o + 1) _).trans (Below.heap_setCell _ _ _ _ hne)
theorem there_of_row {w : World} {b : Nat} {cs : Array Value} {t : TypeId} (h : w.heap[b]? = some (.cells cs t (0, 0))) {o n : Nat} (hn : o + n ≤ cs.size) : w.there b o n := fun j hj => by
  refine ⟨?_, by simp [World.frozen?, h]⟩
  rw [cell_of_row w b (o + j) _ _ _ h, Array.getElem?_eq_getElem (by omega)]
  rfl
theorem range_append {w : World} {b o : Nat} {A B : List Value} (hA : w.rangeAt b o A) (hB : w.rangeAt b (o + A.length) B) : w.rangeAt b o (A ++ B) := fun j v hj => by
  by_cases h : j < A.length
  · rw [List.getElem?_append_left h] at hj
    exact hA j v hj
  · rw [List.getElem?_append_right (by omega)] at hj
    have := hB (j - A.length) v hj
    rwa [show o + A.length + (j - A.length) = o + j by omega] at this
/-- The proposal behind the store of a signature. -/
theorem stored_sign {w : World} {b : Nat} {p : Cg} {t : TypeId} (hp : p.Ok) (h : w.heap[b]? = some (.cells p.cells.toArray t (0, 0))) (s : List UInt8) (hs : s.length = 32) : (w.setCells b 69 (bcells s)).rangeAt b 0 ({ p with sign := s } : Cg).cells := by
  have e : ({ p with sign := s } : Cg).cells = (bcells p.epoch ++ (p.mid ++ p.chg)) ++ bcells s := by
    show bcells p.epoch ++ (p.mid ++ (p.chg ++ bcells s)) = _
    rw [List.append_assoc, List.append_assoc]
  have hl : (bcells p.epoch ++ (p.mid ++ p.chg)).length = 69 := by
    rw [List.length_append, List.length_append, bcells_length, hp.1, Cg.chg_length hp]; rfl
  rw [e]
  refine range_append ?_ ?_
  · refine World.rangeAt_setCells_apart (row_part10 h [] _ (bcells p.sign) ?_ 0 rfl) b 69 _ (.inr (.inl (by rw [hl]; omega)))
    rw [Cg.cells, List.nil_append, List.append_assoc, List.append_assoc]
  · rw [hl]
    exact World.rangeAt_setCells_same _ _ _ _ (there_of_row h (by rw [Cg.size hp, bcells_length, hs]; omega))
theorem load_cg_range {w : World} {b : Nat} {p : Cg} (h : w.rangeAt b 0 p.cells) (ok : p.Ok) : (loadVar 27 ⟨b, 0, none⟩).run Tryd.prog w = .ok (.agg p.cells.toArray) w :=
  run_loadVar_mid w b 0 27 _ _ h Tryd.underlying27 rfl (by have := cgInfo (Cg.size ok); simpa using this)
theorem load_row_hash {w : World} {b : Nat} {l : List UInt8} (hl : l.length = 32) (h : w.heap[b]? = some (.cells (bcells l).toArray 23 (0, 0))) : (loadVar 23 ⟨b, 0, none⟩).run Tryd.prog w = .ok (.agg (bcells l).toArray) w :=
  run_loadVar_row w b 23 23 _ (0, 0) _ h Tryd.underlying23 rfl (by have := hashInfo10 hl; simpa using this)
theorem wp_store_mid_none {P : Program} {o : Oper} {a : Act} {w : World} {K : Act → World → Prop} {Q : Exit → Act → World → Prop} (ty : TypeId) (x y : Operand) (ho : o.op = .store ty x y) (hd : o.dst = none) (b k : Nat) (cells : Array Value) (hx : a.eval x = .pointer (some ⟨b, k, none⟩)) (hy : a.eval y = .agg cells)
    (ht : w.there b k cells.size) (hi : (P.info? ty).map (·.size) = some cells.size) (h1 : cells.all (·.oneCell') = true) (h : K a (w.setCells b k cells.toList)) : o.wp P a w K Q :=
  wp_store_mid ty x y ho b k cells hx hy ht hi h1 (by rw [hd]; exact h)

end Go.Proofs.YtcjcomeakkjiiaaDoor

namespace Go.Proofs.YtcjcomeakkjiiaaDoor
open Go.RowKit Go.Lib

set_option maxRecDepth 100000 in
set_option maxHeartbeats 6400000 in
theorem sign_bad10 (p : Cg) (hp : p.Ok) (k : List UInt8) (hk : k.length = 32) (hr : Cm.right p = false) (w : World) : Calls Tryd.prog 15 #[.agg p.cells.toArray, .agg (bcells k).toArray] w fun e w' => e = .returned (.agg p.cells.toArray) ∧ Kept w.heap.size w.heap.size w w' := by
  have HLD := Lib.hid (fun (x : World) (b : Nat) (h : x.heap[b]? = some (.cells p.cells.toArray 27 (0, 0))) => load_cg h hp)
  have HLV := Lib.hid (fun (x : World) (b : Nat) (h : x.heap[b]? = some (.cells (bcells k).toArray 23 (0, 0))) => load_row_hash hk h)
  have HRI := Lib.hid (fun x => right_calls10 p hp x)
  rw [hr] at HRI
  have HQI := Lib.hid (cgInfo (Cg.size hp))
  have HQS := Lib.hid (show Cm.zero.cells.toArray.size = p.cells.toArray.size by rw [Cg.size hp, Cg.size Cm.zero_ok])
  have HQA := Lib.hid p.all
  obtain ⟨D, hD⟩ : ∃ D, D = p.cells.toArray := ⟨_, rfl⟩
  rw [← hD] at HLD HRI HQI HQS HQA ⊢
  obtain ⟨kc, hkc⟩ : ∃ D, D = (bcells k).toArray := ⟨_, rfl⟩
  rw [← hkc] at HLV ⊢
  clear hD hkc hr hp hk
  go_enter Tryd.func15, Tryd.ntmps15
  go_upto_region 0 with fail
  refine wp_region_lit ?_
  refine @BigFrame.wpList_want _ _ _ _ _ _ _ ?hw74001 ?_
  case hw74001 => kernel_rfl
  intro K hK
  go_simp
  refine hK _ _ ?_
  clear hK K
  refine @BigFrame.wpList_want _ _ _ _ _ _ _ ?hw74002 ?_
  case hw74002 => kernel_rfl
  intro K hK
  go_simp
  refine hK _ _ ?_
  clear hK K
  have R1 : ((w.alloc (.cells D 27)).alloc (.cells kc 23)).heap[w.heap.size]? = some (.cells D 27 (0, 0)) := heap_alloc2_old w _ _
  have R2 : ((w.alloc (.cells D 27)).alloc (.cells kc 23)).heap[w.heap.size + 1]? = some (.cells kc 23 (0, 0)) := heap_alloc2_last w _ _
  have k1 : Kept w.heap.size w.heap.size w ((w.alloc (.cells D 27)).alloc (.cells kc 23)) := ((Kept.refl _ _ _).alloc (Nat.le_refl _) _).alloc (by simp) _
  generalize (w.alloc (.cells D 27)).alloc (.cells kc 23) = w1 at R1 R2 k1 ⊢
  obtain ⟨pb, hpb⟩ : ∃ pb, pb = w.heap.size := ⟨_, rfl⟩
  have HPW := Lib.hid (show w.heap.size ≤ pb by omega)
  rw [← hpb] at R1 R2
  (try rw [← hpb])
  clear hpb
  refine @wpL_alloc _ _ _ _ _ _ _ _ ?hw74003 27 rfl _ (alloc_cg _) ?_
  case hw74003 => kernel_rfl
  simp only [Act.put, List.setIfInBounds_toArray, List.set_cons_zero, List.set_cons_succ]
  have k2' : Kept w1.heap.size w1.heap.size w1 (w1.alloc (.cells Cm.zero.cells.toArray 27)) := (Kept.refl _ _ _).alloc (Nat.le_refl _) _
  have r3 := heap_new w1 (.cells Cm.zero.cells.toArray 27)
  have r1 := row_kept R1 k2'
  have r2 := row_kept R2 k2'
  have K2 := Lib.hid (k1.onto k2')
  have HNE := Lib.hid (show w1.heap.size ≠ pb by have := lt_of_block R1; omega)
  have HRW := Lib.hid (show w.heap.size ≤ w1.heap.size from k1.size)
  generalize w1.alloc (.cells Cm.zero.cells.toArray 27) = w2 at r1 r2 r3 K2 ⊢
  obtain ⟨rb, hrb⟩ : ∃ rb, rb = w1.heap.size := ⟨_, rfl⟩
  rw [← hrb] at r3 HNE HRW
  (try rw [← hrb])
  clear hrb k2' k1 R1 R2
  have R1 := Lib.hid r1
  have R2 := Lib.hid r2
  have R3 := Lib.hid r3
  have HLP := Lib.hid (fun (x : World) (k : Kept w2.heap.size w2.heap.size w2 x) => HLD.out x pb (row_kept R1.out k))
  have HLK := Lib.hid (fun (x : World) (k : Kept w2.heap.size w2.heap.size w2 x) => HLV.out x (pb + 1) (row_kept R2.out k))
  clear r1 r2 r3
  go_upto_region 1 with fail
  refine wp_region_lit ?_
  refine @wpList_load_known _ _ _ _ _ _ _ ?hw74005 27 (.tmp 2) rfl (pb) (0) rfl (.agg D) (HLP.out _ (Kept.refl _ _ _)) ?_
  case hw74005 => kernel_rfl
  simp only [Act.put, List.setIfInBounds_toArray, List.set_cons_zero, List.set_cons_succ]
  refine @BigFrame.wpList_want _ _ _ _ _ _ _ ?hw74004 ?_
  case hw74004 => kernel_rfl
  intro K hK
  go_simp
  go_at_call 9
  refine (HRI.out _).mono ?_
  rintro e w3 ⟨rfl, k3⟩
  refine hK _ _ ?_
  clear hK K
  have HLQ := Lib.hid (HLP.out _ k3)
  have HRB := Lib.hid (row_kept R3.out k3)
  have K3 := Lib.hid (K2.out.onto k3)
  clear k3
  go_upto_region 3 with fail
  refine wp_region_lit ?_
  refine @wpList_load_known _ _ _ _ _ _ _ ?hw74006 27 (.tmp 2) rfl (pb) (0) rfl (.agg D) (HLQ.out) ?_
  case hw74006 => kernel_rfl
  simp only [Act.put, List.setIfInBounds_toArray, List.set_cons_zero, List.set_cons_succ]
  refine wpList_store_row rfl 27 _ _ rfl (rb) D rfl rfl 27 Cm.zero.cells.toArray (HRB.out) (HQI.out) (HQS.out) (HQA.out) ?_
  simp only [Act.put]
  have R9 := setRow_heap w3 rb Cm.zero.cells.toArray D _ _ HRB.out
  have k9 : Kept w.heap.size w.heap.size w (w3.setRow rb D) := Kept.ofBelow (below_setRow (K3.out.below (Nat.le_refl _) (Nat.le_refl _)) HRW.out D) (Nat.le_refl _)
  generalize w3.setRow rb D = w9 at R9 k9 ⊢
  go_wp2
  refine bodyPost_ret (results_cell_row rfl _ _ rb 27 D (0, 0) _ rfl R9 Tryd.underlying27 rfl HQI.out) rfl ?_
  exact ⟨rfl, k9⟩

set_option maxRecDepth 100000 in
set_option maxHeartbeats 6400000 in
theorem sign_ok10 (p : Cg) (hp : p.Ok) (k : List UInt8) (hk : k.length = 32) (hr : Cm.right p = true) (w : World) (htab : Tab w) : Calls Tryd.prog 15 #[.agg p.cells.toArray, .agg (bcells k).toArray] w fun e w' => e = .returned (.agg (Cm.signed p (Pm.ver k)).cells.toArray) ∧ Kept w.heap.size w.heap.size w w' := by
  have HLD := Lib.hid (fun (x : World) (b : Nat) (h : x.heap[b]? = some (.cells p.cells.toArray 27 (0, 0))) => load_cg h hp)
  have HLV := Lib.hid (fun (x : World) (b : Nat) (h : x.heap[b]? = some (.cells (bcells k).toArray 23 (0, 0))) => load_row_hash hk h)
  have HRI := Lib.hid (fun x => right_calls10 p hp x)
  rw [hr] at HRI
  have HQI := Lib.hid (cgInfo (Cg.size (Cm.signed_ok hp (Pm.ver k))))
  have HQS := Lib.hid (show Cm.zero.cells.toArray.size = (Cm.signed p (Pm.ver k)).cells.toArray.size by rw [Cg.size (Cm.signed_ok hp (Pm.ver k)), Cg.size Cm.zero_ok])
  have HQA := Lib.hid (Cm.signed p (Pm.ver k)).all
  have HST := Lib.hid (fun (x : World) (b : Nat) (h : x.heap[b]? = some (.cells p.cells.toArray 27 (0, 0))) => load_cg_range (p := Cm.signed p (Pm.ver k)) (stored_sign hp h (Pm.sign (Pm.ver k) (Cm.text p)) (Pm.sign_length _ _)) (Cm.signed_ok hp (Pm.ver k)))
  have HTH := Lib.hid (fun (x : World) (b : Nat) (h : x.heap[b]? = some (.cells p.cells.toArray 27 (0, 0))) => there_of_row (o := 69) (n := (bcells (Pm.sign (Pm.ver k) (Cm.text p))).toArray.size) h (by rw [Cg.size hp, List.size_toArray, bcells_length, Pm.sign_length]; omega))
  have HSI := Lib.hid (show (Tryd.prog.info? 23).map (·.size) = some (bcells (Pm.sign (Pm.ver k) (Cm.text p))).toArray.size by have := hashInfo10 (Pm.sign_length (Pm.ver k) (Cm.text p)); simpa using this)
  have HSA := Lib.hid (bcells_all (Pm.sign (Pm.ver k) (Cm.text p)))
  obtain ⟨sc, hsc⟩ : ∃ s, s = bcells (Pm.sign (Pm.ver k) (Cm.text p)) := ⟨_, rfl⟩
  have HTO := Lib.hid (fun (x : World) (k : Kept w.heap.size w.heap.size w x) => textof_calls p hp hr x (htab.onto k))
  have HSG := Lib.hid (fun x => sign_calls k (Lib.hid hk) (str (Cm.text p)) (by rw [str_size]; have := Cm.text_le hp; omega) x)
  rw [str_back] at HSG
  obtain ⟨D, hD⟩ : ∃ D, D = p.cells.toArray := ⟨_, rfl⟩
  obtain ⟨DQ, hDQ⟩ : ∃ D, D = (Cm.signed p (Pm.ver k)).cells.toArray := ⟨_, rfl⟩
  obtain ⟨ts, hts⟩ : ∃ t, t = str (Cm.text p) := ⟨_, rfl⟩
  obtain ⟨kc, hkc⟩ : ∃ D, D = (bcells k).toArray := ⟨_, rfl⟩
  rw [← hD] at HLD HRI HTO HST HTH ⊢
  rw [← hDQ] at HQI HQS HQA HST ⊢
  rw [← hts] at HTO HSG
  rw [← hkc] at HLV HSG ⊢
  rw [← hsc] at HST HTH HSI HSA HSG
  clear hD hDQ hts hkc hsc hr hp hk htab
  go_enter Tryd.func15, Tryd.ntmps15
  go_upto_region 0 with fail
  refine wp_region_lit ?_
  refine @BigFrame.wpList_want _ _ _ _ _ _ _ ?hw74007 ?_
  case hw74007 => kernel_rfl
  intro K hK
  go_simp
  refine hK _ _ ?_
  clear hK K
  refine @BigFrame.wpList_want _ _ _ _ _ _ _ ?hw74008 ?_
  case hw74008 => kernel_rfl
  intro K hK
  go_simp
  refine hK _ _ ?_
  clear hK K
  have R1 : ((w.alloc (.cells D 27)).alloc (.cells kc 23)).heap[w.heap.size]? = some (.cells D 27 (0, 0)) := heap_alloc2_old w _ _
  have R2 : ((w.alloc (.cells D 27)).alloc (.cells kc 23)).heap[w.heap.size + 1]? = some (.cells kc 23 (0, 0)) := heap_alloc2_last w _ _
  have k1 : Kept w.heap.size w.heap.size w ((w.alloc (.cells D 27)).alloc (.cells kc 23)) := ((Kept.refl _ _ _).alloc (Nat.le_refl _) _).alloc (by simp) _
  generalize (w.alloc (.cells D 27)).alloc (.cells kc 23) = w1 at R1 R2 k1 ⊢
  obtain ⟨pb, hpb⟩ : ∃ pb, pb = w.heap.size := ⟨_, rfl⟩
  have HPW := Lib.hid (show w.heap.size ≤ pb by omega)
  rw [← hpb] at R1 R2
  (try rw [← hpb])
  clear hpb
  refine @wpL_alloc _ _ _ _ _ _ _ _ ?hw74009 27 rfl _ (alloc_cg _) ?_
  case hw74009 => kernel_rfl
  simp only [Act.put, List.setIfInBounds_toArray, List.set_cons_zero, List.set_cons_succ]
  have k2' : Kept w1.heap.size w1.heap.size w1 (w1.alloc (.cells Cm.zero.cells.toArray 27)) := (Kept.refl _ _ _).alloc (Nat.le_refl _) _
  have r3 := heap_new w1 (.cells Cm.zero.cells.toArray 27)
  have r1 := row_kept R1 k2'
  have r2 := row_kept R2 k2'
  have K2 := Lib.hid (k1.onto k2')
  have HNE := Lib.hid (show w1.heap.size ≠ pb by have := lt_of_block R1; omega)
  have HRW := Lib.hid (show w.heap.size ≤ w1.heap.size from k1.size)
  generalize w1.alloc (.cells Cm.zero.cells.toArray 27) = w2 at r1 r2 r3 K2 ⊢
  obtain ⟨rb, hrb⟩ : ∃ rb, rb = w1.heap.size := ⟨_, rfl⟩
  rw [← hrb] at r3 HNE HRW
  (try rw [← hrb])
  clear hrb k2' k1 R1 R2
  have R1 := Lib.hid r1
  have R2 := Lib.hid r2
  have R3 := Lib.hid r3
  have HLP := Lib.hid (fun (x : World) (k : Kept w2.heap.size w2.heap.size w2 x) => HLD.out x pb (row_kept R1.out k))
  have HLK := Lib.hid (fun (x : World) (k : Kept w2.heap.size w2.heap.size w2 x) => HLV.out x (pb + 1) (row_kept R2.out k))
  clear r1 r2 r3
  go_upto_region 1 with fail
  refine wp_region_lit ?_
  refine @wpList_load_known _ _ _ _ _ _ _ ?hw74011 27 (.tmp 2) rfl (pb) (0) rfl (.agg D) (HLP.out _ (Kept.refl _ _ _)) ?_
  case hw74011 => kernel_rfl
  simp only [Act.put, List.setIfInBounds_toArray, List.set_cons_zero, List.set_cons_succ]
  refine @BigFrame.wpList_want _ _ _ _ _ _ _ ?hw74010 ?_
  case hw74010 => kernel_rfl
  intro K hK
  go_simp
  go_at_call 9
  refine (HRI.out _).mono ?_
  rintro e w3 ⟨rfl, k3⟩
  refine hK _ _ ?_
  clear hK K
  have KD : Kept w2.heap.size w2.heap.size w2 w3.drew := k3.drew
  clear k3
  go_upto_region 2 with fail
  refine wp_region_noPanic ?_
  refine wp_region_heldTo 5 (S := fun w' => Kept w2.heap.size w2.heap.size w2 w') (by kernel_rfl) KD (fun hH => ?_)
  refine heldTo_take (i := 0) 7 (.agg kc) rfl rfl (by kernel_rfl) (by kernel_rfl) (by kernel_rfl) (by kernel_rfl) (fun _ _ _ h => h) (yieldsIf_load_known (by kernel_rfl) 23 _ rfl (pb + 1) (0) rfl (.agg kc) (HLK.out)) hH ?_
  simp only [List.setIfInBounds_toArray, List.set_cons_zero, List.set_cons_succ]
  refine heldTo_take (i := 1) 8 (.agg D) rfl rfl (by kernel_rfl) (by kernel_rfl) (by kernel_rfl) (by kernel_rfl) (fun _ _ _ h => h) (yieldsIf_load_known (by kernel_rfl) 27 _ rfl (pb) (0) rfl (.agg D) (HLP.out)) hH ?_
  simp only [List.setIfInBounds_toArray, List.set_cons_zero, List.set_cons_succ]
  refine heldTo_one (i := 2) (by kernel_rfl) rfl (fun K hK => ?_)
  rw [if_pos (by rfl)]
  go_simp
  go_wp2_with (go_at_call 28; refine (HTO.out _ (K2.out.onto KD)).mono ?_; rintro e w4 ⟨rfl, kw4⟩)
  have K4 : Kept w2.heap.size w2.heap.size w2 w4 := KD.onto kw4
  refine hK.out _ _ K4 (fun hH => ?_)
  clear hK K
  refine heldTo_one (i := 3) (by kernel_rfl) rfl (fun K hK => ?_)
  rw [if_pos (by rfl)]
  go_simp
  go_wp2_with (go_at_call 31; refine (HSG.out _).mono ?_; rintro e w5 ⟨rfl, kw5⟩)
  have K5 : Kept w2.heap.size w2.heap.size w2 w5 := K4.onto kw5
  refine hK.out _ _ K5 (fun hH => ?_)
  clear hK K
  refine heldTo_take (i := 4) 11 (.pointer (some ⟨pb, 69, none⟩)) rfl rfl (by kernel_rfl) (by kernel_rfl) (by kernel_rfl) (by kernel_rfl) (fun _ _ _ h => h) (.inl ⟨by kernel_rfl, fun w9 _ => by go_simp; first | done | rfl⟩) hH ?_
  simp only [List.setIfInBounds_toArray, List.set_cons_zero, List.set_cons_succ]
  have r1 := row_kept R1.out K5
  have r3 := row_kept R3.out K5
  refine heldTo_last (by kernel_rfl) rfl (fun K hK => ?_)
  rw [if_pos (by rfl)]
  refine wp_store_mid_none 23 _ _ rfl rfl pb 69 sc.toArray rfl rfl (HTH.out _ _ r1) HSI.out HSA.out ?_
  refine hK.out _ _ ?_
  clear hK K
  refine heldTo_done (by kernel_rfl) ?_ _
  refine NoPanic.normal ?_
  have HLQ := Lib.hid (HST.out _ _ r1)
  have HRB := Lib.hid ((heap_setCells10 HNE.out sc 69 w5).trans r3)
  have K9 := Lib.hid (kept_setCells pb HPW.out sc 69 w5 (K2.out.onto K5))
  rw [show sc.toArray.toList = sc from rfl]
  generalize w5.setCells pb 69 sc = w8 at HLQ HRB K9 ⊢
  clear r1 r3 K5 hH
  go_upto_region 3 with fail
  refine wp_region_lit ?_
  refine @wpList_load_known _ _ _ _ _ _ _ ?hw74012 27 (.tmp 2) rfl (pb) (0) rfl (.agg DQ) (HLQ.out) ?_
  case hw74012 => kernel_rfl
  simp only [Act.put, List.setIfInBounds_toArray, List.set_cons_zero, List.set_cons_succ]
  refine wpList_store_row rfl 27 _ _ rfl (rb) DQ rfl rfl 27 Cm.zero.cells.toArray (HRB.out) (HQI.out) (HQS.out) (HQA.out) ?_
  simp only [Act.put]
  have R9 := setRow_heap w8 rb Cm.zero.cells.toArray DQ _ _ HRB.out
  have k9 : Kept w.heap.size w.heap.size w (w8.setRow rb DQ) := Kept.ofBelow (below_setRow (K9.out.below (Nat.le_refl _) (Nat.le_refl _)) HRW.out DQ) (Nat.le_refl _)
  generalize w8.setRow rb DQ = w9 at R9 k9 ⊢
  go_wp2
  refine bodyPost_ret (results_cell_row rfl _ _ rb 27 DQ (0, 0) _ rfl R9 Tryd.underlying27 rfl HQI.out) rfl ?_
  exact ⟨rfl, k9⟩

set_option maxRecDepth 100000 in
set_option maxHeartbeats 6400000 in
theorem refsign_calls10 (p : Cg) (hp : p.Ok) (k : List UInt8) (hk : k.length = 32) (hr : Cm.right p = true) (w : World) : Calls Tryd.prog 19 #[.agg p.cells.toArray, .agg (bcells k).toArray] w fun e w' => e = .returned (.agg (Cm.signed p (Pm.ver k)).cells.toArray) ∧ Kept w.heap.size w.heap.size w w' := by
  have HLD := Lib.hid (fun (x : World) (b : Nat) (h : x.heap[b]? = some (.cells p.cells.toArray 27 (0, 0))) => load_cg h hp)
  have HLV := Lib.hid (fun (x : World) (b : Nat) (h : x.heap[b]? = some (.cells (bcells k).toArray 23 (0, 0))) => load_row_hash hk h)
  have HQI := Lib.hid (cgInfo (Cg.size (Cm.signed_ok hp (Pm.ver k))))
  have HQS := Lib.hid (show Cm.zero.cells.toArray.size = (Cm.signed p (Pm.ver k)).cells.toArray.size by rw [Cg.size (Cm.signed_ok hp (Pm.ver k)), Cg.size Cm.zero_ok])
  have HQA := Lib.hid (Cm.signed p (Pm.ver k)).all
  have HST := Lib.hid (fun (x : World) (b : Nat) (h : x.heap[b]? = some (.cells p.cells.toArray 27 (0, 0))) => load_cg_range (p := Cm.signed p (Pm.ver k)) (stored_sign hp h (Pm.sign (Pm.ver k) (Cm.text p)) (Pm.sign_length _ _)) (Cm.signed_ok hp (Pm.ver k)))
  have HTH := Lib.hid (fun (x : World) (b : Nat) (h : x.heap[b]? = some (.cells p.cells.toArray 27 (0, 0))) => there_of_row (o := 69) (n := (bcells (Pm.sign (Pm.ver k) (Cm.text p))).toArray.size) h (by rw [Cg.size hp, List.size_toArray, bcells_length, Pm.sign_length]; omega))
  have HSI := Lib.hid (show (Tryd.prog.info? 23).map (·.size) = some (bcells (Pm.sign (Pm.ver k) (Cm.text p))).toArray.size by have := hashInfo10 (Pm.sign_length (Pm.ver k) (Cm.text p)); simpa using this)
  have HSA := Lib.hid (bcells_all (Pm.sign (Pm.ver k) (Cm.text p)))
  obtain ⟨sc, hsc⟩ : ∃ s, s = bcells (Pm.sign (Pm.ver k) (Cm.text p)) := ⟨_, rfl⟩
  have HTO := Lib.hid (fun (x : World) => reftext_calls10 p hp hr x)
  have HVE := Lib.hid (fun x => refver_calls k (Lib.hid hk) x)
  have HSG := Lib.hid (fun x => refsign_calls (Pm.ver k) (Lib.hid (Pm.ver_length k)) (str (Cm.text p)) (by rw [str_size]; have := Cm.text_le hp; omega) x)
  rw [str_back] at HSG
  obtain ⟨D, hD⟩ : ∃ D, D = p.cells.toArray := ⟨_, rfl⟩
  obtain ⟨DQ, hDQ⟩ : ∃ D, D = (Cm.signed p (Pm.ver k)).cells.toArray := ⟨_, rfl⟩
  obtain ⟨ts, hts⟩ : ∃ t, t = str (Cm.text p) := ⟨_, rfl⟩
  obtain ⟨kc, hkc⟩ : ∃ D, D = (bcells k).toArray := ⟨_, rfl⟩
  obtain ⟨vc, hvc⟩ : ∃ D, D = (bcells (Pm.ver k)).toArray := ⟨_, rfl⟩
  rw [← hvc] at HVE HSG
  rw [← hD] at HLD HTO HST HTH ⊢
  rw [← hDQ] at HQI HQS HQA HST ⊢
  rw [← hts] at HTO HSG
  rw [← hkc] at HLV HVE ⊢
  rw [← hsc] at HST HTH HSI HSA HSG
  clear hD hDQ hts hkc hsc hvc hr hp hk
  go_enter Tryd.func19, Tryd.ntmps19
  go_upto_region 0 with fail
  refine wp_region_lit ?_
  refine @BigFrame.wpList_want _ _ _ _ _ _ _ ?hw74013 ?_
  case hw74013 => kernel_rfl
  intro K hK
  go_simp
  refine hK _ _ ?_
  clear hK K
  refine @BigFrame.wpList_want _ _ _ _ _ _ _ ?hw74014 ?_
  case hw74014 => kernel_rfl
  intro K hK
  go_simp
  refine hK _ _ ?_
  clear hK K
  have R1 : ((w.alloc (.cells D 27)).alloc (.cells kc 23)).heap[w.heap.size]? = some (.cells D 27 (0, 0)) := heap_alloc2_old w _ _
  have R2 : ((w.alloc (.cells D 27)).alloc (.cells kc 23)).heap[w.heap.size + 1]? = some (.cells kc 23 (0, 0)) := heap_alloc2_last w _ _
  have k1 : Kept w.heap.size w.heap.size w ((w.alloc (.cells D 27)).alloc (.cells kc 23)) := ((Kept.refl _ _ _).alloc (Nat.le_refl _) _).alloc (by simp) _
  generalize (w.alloc (.cells D 27)).alloc (.cells kc 23) = w1 at R1 R2 k1 ⊢
  obtain ⟨pb, hpb⟩ : ∃ pb, pb = w.heap.size := ⟨_, rfl⟩
  have HPW := Lib.hid (show w.heap.size ≤ pb by omega)
  rw [← hpb] at R1 R2
  (try rw [← hpb])
  clear hpb
  refine @wpL_alloc _ _ _ _ _ _ _ _ ?hw74015 27 rfl _ (alloc_cg _) ?_
  case hw74015 => kernel_rfl
  simp only [Act.put, List.setIfInBounds_toArray, List.set_cons_zero, List.set_cons_succ]
  have k2' : Kept w1.heap.size w1.heap.size w1 (w1.alloc (.cells Cm.zero.cells.toArray 27)) := (Kept.refl _ _ _).alloc (Nat.le_refl _) _
  have r3 := heap_new w1 (.cells Cm.zero.cells.toArray 27)
  have r1 := row_kept R1 k2'
  have r2 := row_kept R2 k2'
  have K2 := Lib.hid (k1.onto k2')
  have HNE := Lib.hid (show w1.heap.size ≠ pb by have := lt_of_block R1; omega)
  have HRW := Lib.hid (show w.heap.size ≤ w1.heap.size from k1.size)
  generalize w1.alloc (.cells Cm.zero.cells.toArray 27) = w2 at r1 r2 r3 K2 ⊢
  obtain ⟨rb, hrb⟩ : ∃ rb, rb = w1.heap.size := ⟨_, rfl⟩
  rw [← hrb] at r3 HNE HRW
  (try rw [← hrb])
  clear hrb k2' k1 R1 R2
  have R1 := Lib.hid r1
  have R2 := Lib.hid r2
  have R3 := Lib.hid r3
  have HLP := Lib.hid (fun (x : World) (k : Kept w2.heap.size w2.heap.size w2 x) => HLD.out x pb (row_kept R1.out k))
  have HLK := Lib.hid (fun (x : World) (k : Kept w2.heap.size w2.heap.size w2 x) => HLV.out x (pb + 1) (row_kept R2.out k))
  clear r1 r2 r3
  have KD : Kept w2.heap.size w2.heap.size w2 w2.drew := (Kept.refl _ _ _).drew
  go_upto_region 1 with fail
  refine wp_region_noPanic ?_
  refine wp_region_heldTo 6 (S := fun w' => Kept w2.heap.size w2.heap.size w2 w') (by kernel_rfl) KD (fun hH => ?_)
  refine heldTo_take (i := 0) 5 (.agg kc) rfl rfl (by kernel_rfl) (by kernel_rfl) (by kernel_rfl) (by kernel_rfl) (fun _ _ _ h => h) (yieldsIf_load_known (by kernel_rfl) 23 _ rfl (pb + 1) (0) rfl (.agg kc) (HLK.out)) hH ?_
  simp only [List.setIfInBounds_toArray, List.set_cons_zero, List.set_cons_succ]
  refine heldTo_take (i := 2) 7 (.agg D) rfl rfl (by kernel_rfl) (by kernel_rfl) (by kernel_rfl) (by kernel_rfl) (fun _ _ _ h => h) (yieldsIf_load_known (by kernel_rfl) 27 _ rfl (pb) (0) rfl (.agg D) (HLP.out)) hH ?_
  simp only [List.setIfInBounds_toArray, List.set_cons_zero, List.set_cons_succ]
  refine heldTo_one (i := 1) (by kernel_rfl) rfl (fun K hK => ?_)
  rw [if_pos (by rfl)]
  go_simp
  go_wp2_with (go_at_call 35; refine (HVE.out _).mono ?_; rintro e w4 ⟨rfl, kw4⟩)
  have K4 : Kept w2.heap.size w2.heap.size w2 w4 := KD.onto kw4
  refine hK.out _ _ K4 (fun hH => ?_)
  clear hK K
  refine heldTo_one (i := 3) (by kernel_rfl) rfl (fun K hK => ?_)
  rw [if_pos (by rfl)]
  go_simp
  go_wp2_with (go_at_call 30; refine (HTO.out _).mono ?_; rintro e w5 ⟨rfl, kw5⟩)
  have K5 : Kept w2.heap.size w2.heap.size w2 w5 := K4.onto kw5
  refine hK.out _ _ K5 (fun hH => ?_)
  clear hK K
  refine heldTo_one (i := 4) (by kernel_rfl) rfl (fun K hK => ?_)
  rw [if_pos (by rfl)]
  go_simp
  go_wp2_with (go_at_call 29; refine (HSG.out _).mono ?_; rintro e w6 ⟨rfl, kw6⟩)
  have K6 : Kept w2.heap.size w2.heap.size w2 w6 := K5.onto kw6
  refine hK.out _ _ K6 (fun hH => ?_)
  clear hK K
  refine heldTo_take (i := 5) 10 (.pointer (some ⟨pb, 69, none⟩)) rfl rfl (by kernel_rfl) (by kernel_rfl) (by kernel_rfl) (by kernel_rfl) (fun _ _ _ h => h) (.inl ⟨by kernel_rfl, fun w9 _ => by go_simp; first | done | rfl⟩) hH ?_
  simp only [List.setIfInBounds_toArray, List.set_cons_zero, List.set_cons_succ]
  have r1 := row_kept R1.out K6
  have r3 := row_kept R3.out K6
  refine heldTo_last (by kernel_rfl) rfl (fun K hK => ?_)
  rw [if_pos (by rfl)]
  refine wp_store_mid_none 23 _ _ rfl rfl pb 69 sc.toArray rfl rfl (HTH.out _ _ r1) HSI.out HSA.out ?_
  refine hK.out _ _ ?_
  clear hK K
  refine heldTo_done (by kernel_rfl) ?_ _
  refine NoPanic.normal ?_
  have HLQ := Lib.hid (HST.out _ _ r1)
  have HRB := Lib.hid ((heap_setCells10 HNE.out sc 69 w6).trans r3)
  have K9 := Lib.hid (kept_setCells pb HPW.out sc 69 w6 (K2.out.onto K6))
  rw [show sc.toArray.toList = sc from rfl]
  generalize w6.setCells pb 69 sc = w8 at HLQ HRB K9 ⊢
  clear r1 r3 K6 hH
  go_upto_region 2 with fail
  refine wp_region_lit ?_
  refine @wpList_load_known _ _ _ _ _ _ _ ?hw74016 27 (.tmp 2) rfl (pb) (0) rfl (.agg DQ) (HLQ.out) ?_
  case hw74016 => kernel_rfl
  simp only [Act.put, List.setIfInBounds_toArray, List.set_cons_zero, List.set_cons_succ]
  refine wpList_store_row rfl 27 _ _ rfl (rb) DQ rfl rfl 27 Cm.zero.cells.toArray (HRB.out) (HQI.out) (HQS.out) (HQA.out) ?_
  simp only [Act.put]
  have R9 := setRow_heap w8 rb Cm.zero.cells.toArray DQ _ _ HRB.out
  have k9 : Kept w.heap.size w.heap.size w (w8.setRow rb DQ) := Kept.ofBelow (below_setRow (K9.out.below (Nat.le_refl _) (Nat.le_refl _)) HRW.out DQ) (Nat.le_refl _)
  generalize w8.setRow rb DQ = w9 at R9 k9 ⊢
  go_wp2
  refine bodyPost_ret (results_cell_row rfl _ _ rb 27 DQ (0, 0) _ rfl R9 Tryd.underlying27 rfl HQI.out) rfl ?_
  exact ⟨rfl, k9⟩

end Go.Proofs.YtcjcomeakkjiiaaDoor

namespace Go.Proofs.YtcjcomeakkjiiaaDoor
open Go.RowKit Go.Lib

set_option maxRecDepth 100000 in
set_option maxHeartbeats 6400000 in
theorem check_bad10 (p : Cg) (hp : p.Ok) (v : List UInt8) (hv : v.length = 32) (hr : Cm.right p = false) (w : World) : Calls Tryd.prog 13 #[.agg p.cells.toArray, .agg (bcells v).toArray] w fun e w' => e = .returned (.bool (Cm.checks p v)) ∧ Kept w.heap.size w.heap.size w w' := by
  have HLD := Lib.hid (fun (x : World) (b : Nat) (h : x.heap[b]? = some (.cells p.cells.toArray 27 (0, 0))) => load_cg h hp)
  have HLS := Lib.hid (fun (x : World) (b : Nat) (h : x.heap[b]? = some (.cells p.cells.toArray 27 (0, 0))) => load_hash (cg_sign h hp) hp.2.2)
  have HLV := Lib.hid (fun (x : World) (b : Nat) (h : x.heap[b]? = some (.cells (bcells v).toArray 23 (0, 0))) => load_row_hash hv h)
  have HRI := Lib.hid (fun x => right_calls10 p hp x)
  rw [hr] at HRI
  have HFIN : Hid (Cm.checks p v = false) := Lib.hid (by rw [Cm.checks, hr]; rfl)
  obtain ⟨D, hD⟩ : ∃ D, D = p.cells.toArray := ⟨_, rfl⟩
  obtain ⟨vc, hvc⟩ : ∃ D, D = (bcells v).toArray := ⟨_, rfl⟩
  obtain ⟨sc, hsc⟩ : ∃ s, s = (bcells p.sign).toArray := ⟨_, rfl⟩
  rw [← hD] at HLD HLS HRI ⊢
  rw [← hvc] at HLV ⊢
  rw [← hsc] at HLS
  clear hD hvc hsc hr hp hv
  go_enter Tryd.func13, Tryd.ntmps13
  go_upto_region 1 with fail
  have R1 : ((w.alloc (.cells D 27)).alloc (.cells vc 23)).heap[w.heap.size]? = some (.cells D 27 (0, 0)) := heap_alloc2_old w _ _
  have R2 : ((w.alloc (.cells D 27)).alloc (.cells vc 23)).heap[w.heap.size + 1]? = some (.cells vc 23 (0, 0)) := heap_alloc2_last w _ _
  have k1 : Kept w.heap.size w.heap.size w ((w.alloc (.cells D 27)).alloc (.cells vc 23)) := ((Kept.refl _ _ _).alloc (Nat.le_refl _) _).alloc (by simp) _
  generalize (w.alloc (.cells D 27)).alloc (.cells vc 23) = w1 at R1 R2 k1 ⊢
  obtain ⟨pb, hpb⟩ : ∃ pb, pb = w.heap.size := ⟨_, rfl⟩
  rw [← hpb] at R1 R2
  (try rw [← hpb])
  clear hpb
  have K1 := Lib.hid k1
  have HLP := Lib.hid (fun (x : World) (k : Kept w1.heap.size w1.heap.size w1 x) => HLD.out x pb (row_kept R1 k))
  have HLG := Lib.hid (fun (x : World) (k : Kept w1.heap.size w1.heap.size w1 x) => HLS.out x pb (row_kept R1 k))
  have HLK := Lib.hid (fun (x : World) (k : Kept w1.heap.size w1.heap.size w1 x) => HLV.out x (pb + 1) (row_kept R2 k))
  have KD : Kept w1.heap.size w1.heap.size w1 w1.drew := (Kept.refl _ _ _).drew
  clear k1 R1 R2 HLD HLS HLV
  refine wp_region_noPanic ?_
  refine wp_region_held_drew (S := fun w' => Kept w1.heap.size w1.heap.size w1 w') (by kernel_rfl) ((Kept.refl _ _ _).drew) (fun hH => ?_)
  refine wpAnyH_take_at (i := 0) 5 (.agg D) rfl rfl (by kernel_rfl) (by kernel_rfl) (by kernel_rfl) (fun _ _ _ h => h) (yieldsIf_load_known (by kernel_rfl) 27 _ rfl (pb) (0) rfl (.agg D) (HLP.out)) hH ?_
  simp only [List.setIfInBounds_toArray, List.set_cons_zero, List.set_cons_succ]
  refine wpAnyH_ready (rs := [1]) (by kernel_rfl) (by simp) ?_
  refine AllReadyH.cons rfl (fun K hK => ?_) AllReadyH.nil
  rw [if_pos (by rfl)]
  go_simp
  go_wp2_with (go_at_call 9; refine (HRI.out _).mono ?_; rintro e w2 ⟨rfl, kw2⟩)
  have K2 : Kept w1.heap.size w1.heap.size w1 w2 := KD.trans (kw2.mono KD.size (fun i hi _ => Nat.ne_of_lt (Nat.lt_of_lt_of_le hi KD.size)))
  refine hK.out _ _ (K2) (fun hH => ?_)
  clear hK K
  refine wpAnyH_take_ex (i := 2) 7 rfl rfl (by kernel_rfl) (by kernel_rfl) (by kernel_rfl) (fun _ _ _ _ h => h) (by kernel_rfl) hH ?_
  apply Exists.intro
  apply And.intro
  · intro w9 _
    go_simp
    first | done | rfl
  simp only [List.setIfInBounds_toArray, List.set_cons_zero, List.set_cons_succ]
  refine wpAnyH_take_at (i := 3) 8 undef rfl rfl (by kernel_rfl) (by kernel_rfl) (by kernel_rfl) (fun _ _ _ h => h) (.inr ⟨by kernel_rfl, rfl⟩) hH ?_
  simp only [List.setIfInBounds_toArray, List.set_cons_zero, List.set_cons_succ]
  refine wpAnyH_take_at (i := 4) 9 undef rfl rfl (by kernel_rfl) (by kernel_rfl) (by kernel_rfl) (fun _ _ _ h => h) (.inr ⟨by kernel_rfl, rfl⟩) hH ?_
  simp only [List.setIfInBounds_toArray, List.set_cons_zero, List.set_cons_succ]
  refine wpAnyH_take_at (i := 5) 10 undef rfl rfl (by kernel_rfl) (by kernel_rfl) (by kernel_rfl) (fun _ _ _ h => h) (.inr ⟨by kernel_rfl, rfl⟩) hH ?_
  simp only [List.setIfInBounds_toArray, List.set_cons_zero, List.set_cons_succ]
  refine wpAnyH_take_at (i := 6) 11 undef rfl rfl (by kernel_rfl) (by kernel_rfl) (by kernel_rfl) (fun _ _ _ h => h) (.inr ⟨by kernel_rfl, rfl⟩) hH ?_
  simp only [List.setIfInBounds_toArray, List.set_cons_zero, List.set_cons_succ]
  refine wpAnyH_take_at (i := 7) 12 undef rfl rfl (by kernel_rfl) (by kernel_rfl) (by kernel_rfl) (fun _ _ _ h => h) (.inr ⟨by kernel_rfl, rfl⟩) hH ?_
  simp only [List.setIfInBounds_toArray, List.set_cons_zero, List.set_cons_succ]
  refine wpAnyH_take_at (i := 8) 13 undef rfl rfl (by kernel_rfl) (by kernel_rfl) (by kernel_rfl) (fun _ _ _ h => h) (.inr ⟨by kernel_rfl, rfl⟩) hH ?_
  simp only [List.setIfInBounds_toArray, List.set_cons_zero, List.set_cons_succ]
  refine wpAnyH_take_ex (i := 9) 14 rfl rfl (by kernel_rfl) (by kernel_rfl) (by kernel_rfl) (fun _ _ _ _ h => h) (by kernel_rfl) hH ?_
  apply Exists.intro
  apply And.intro
  · intro w9 _
    go_simp
    first | done | rfl
  simp only [List.setIfInBounds_toArray, List.set_cons_zero, List.set_cons_succ]
  refine wpAnyH_take_ex (i := 10) 4 rfl rfl (by kernel_rfl) (by kernel_rfl) (by kernel_rfl) (fun _ _ _ _ h => h) (by kernel_rfl) hH ?_
  apply Exists.intro
  apply And.intro
  · intro w9 _
    go_simp
    first | done | rfl
  simp only [List.setIfInBounds_toArray, List.set_cons_zero, List.set_cons_succ]
  refine wpAnyH_done (by kernel_rfl) ?_ _
  refine NoPanic.normal ?_
  go_wp2
  go_ret
  rw [HFIN.out]
  exact ⟨rfl, K1.out.onto K2⟩

set_option maxRecDepth 100000 in
set_option maxHeartbeats 6400000 in
theorem refcheck_bad10 (p : Cg) (hp : p.Ok) (v : List UInt8) (hv : v.length = 32) (hr : Cm.right p = false) (w : World) : Calls Tryd.prog 14 #[.agg p.cells.toArray, .agg (bcells v).toArray] w fun e w' => e = .returned (.bool (Cm.checks p v)) ∧ Kept w.heap.size w.heap.size w w' := by
  have HLD := Lib.hid (fun (x : World) (b : Nat) (h : x.heap[b]? = some (.cells p.cells.toArray 27 (0, 0))) => load_cg h hp)
  have HLS := Lib.hid (fun (x : World) (b : Nat) (h : x.heap[b]? = some (.cells p.cells.toArray 27 (0, 0))) => load_hash (cg_sign h hp) hp.2.2)
  have HLV := Lib.hid (fun (x : World) (b : Nat) (h : x.heap[b]? = some (.cells (bcells v).toArray 23 (0, 0))) => load_row_hash hv h)
  have HRI := Lib.hid (fun x => refright_calls10 p hp x)
  rw [hr] at HRI
  have HFIN : Hid (Cm.checks p v = false) := Lib.hid (by rw [Cm.checks, hr]; rfl)
  obtain ⟨D, hD⟩ : ∃ D, D = p.cells.toArray := ⟨_, rfl⟩
  obtain ⟨vc, hvc⟩ : ∃ D, D = (bcells v).toArray := ⟨_, rfl⟩
  obtain ⟨sc, hsc⟩ : ∃ s, s = (bcells p.sign).toArray := ⟨_, rfl⟩
  rw [← hD] at HLD HLS HRI ⊢
  rw [← hvc] at HLV ⊢
  rw [← hsc] at HLS
  clear hD hvc hsc hr hp hv
  go_enter Tryd.func14, Tryd.ntmps14
  go_upto_region 1 with fail
  have R1 : ((w.alloc (.cells D 27)).alloc (.cells vc 23)).heap[w.heap.size]? = some (.cells D 27 (0, 0)) := heap_alloc2_old w _ _
  have R2 : ((w.alloc (.cells D 27)).alloc (.cells vc 23)).heap[w.heap.size + 1]? = some (.cells vc 23 (0, 0)) := heap_alloc2_last w _ _
  have k1 : Kept w.heap.size w.heap.size w ((w.alloc (.cells D 27)).alloc (.cells vc 23)) := ((Kept.refl _ _ _).alloc (Nat.le_refl _) _).alloc (by simp) _
  generalize (w.alloc (.cells D 27)).alloc (.cells vc 23) = w1 at R1 R2 k1 ⊢
  obtain ⟨pb, hpb⟩ : ∃ pb, pb = w.heap.size := ⟨_, rfl⟩
  rw [← hpb] at R1 R2
  (try rw [← hpb])
  clear hpb
  have K1 := Lib.hid k1
  have HLP := Lib.hid (fun (x : World) (k : Kept w1.heap.size w1.heap.size w1 x) => HLD.out x pb (row_kept R1 k))
  have HLG := Lib.hid (fun (x : World) (k : Kept w1.heap.size w1.heap.size w1 x) => HLS.out x pb (row_kept R1 k))
  have HLK := Lib.hid (fun (x : World) (k : Kept w1.heap.size w1.heap.size w1 x) => HLV.out x (pb + 1) (row_kept R2 k))
  have KD : Kept w1.heap.size w1.heap.size w1 w1.drew := (Kept.refl _ _ _).drew
  clear k1 R1 R2 HLD HLS HLV
  refine wp_region_noPanic ?_
  refine wp_region_held_drew (S := fun w' => Kept w1.heap.size w1.heap.size w1 w') (by kernel_rfl) ((Kept.refl _ _ _).drew) (fun hH => ?_)
  refine wpAnyH_take_at (i := 0) 5 (.agg D) rfl rfl (by kernel_rfl) (by kernel_rfl) (by kernel_rfl) (fun _ _ _ h => h) (yieldsIf_load_known (by kernel_rfl) 27 _ rfl (pb) (0) rfl (.agg D) (HLP.out)) hH ?_
  simp only [List.setIfInBounds_toArray, List.set_cons_zero, List.set_cons_succ]
  refine wpAnyH_ready (rs := [1]) (by kernel_rfl) (by simp) ?_
  refine AllReadyH.cons rfl (fun K hK => ?_) AllReadyH.nil
  rw [if_pos (by rfl)]
  go_simp
  go_wp2_with (go_at_call 10; refine (HRI.out _).mono ?_; rintro e w2 ⟨rfl, kw2⟩)
  have K2 : Kept w1.heap.size w1.heap.size w1 w2 := KD.trans (kw2.mono KD.size (fun i hi _ => Nat.ne_of_lt (Nat.lt_of_lt_of_le hi KD.size)))
  refine hK.out _ _ (K2) (fun hH => ?_)
  clear hK K
  refine wpAnyH_take_ex (i := 2) 7 rfl rfl (by kernel_rfl) (by kernel_rfl) (by kernel_rfl) (fun _ _ _ _ h => h) (by kernel_rfl) hH ?_
  apply Exists.intro
  apply And.intro
  · intro w9 _
    go_simp
    first | done | rfl
  simp only [List.setIfInBounds_toArray, List.set_cons_zero, List.set_cons_succ]
  refine wpAnyH_take_at (i := 3) 8 undef rfl rfl (by kernel_rfl) (by kernel_rfl) (by kernel_rfl) (fun _ _ _ h => h) (.inr ⟨by kernel_rfl, rfl⟩) hH ?_
  simp only [List.setIfInBounds_toArray, List.set_cons_zero, List.set_cons_succ]
  refine wpAnyH_take_at (i := 4) 9 undef rfl rfl (by kernel_rfl) (by kernel_rfl) (by kernel_rfl) (fun _ _ _ h => h) (.inr ⟨by kernel_rfl, rfl⟩) hH ?_
  simp only [List.setIfInBounds_toArray, List.set_cons_zero, List.set_cons_succ]
  refine wpAnyH_take_at (i := 5) 10 undef rfl rfl (by kernel_rfl) (by kernel_rfl) (by kernel_rfl) (fun _ _ _ h => h) (.inr ⟨by kernel_rfl, rfl⟩) hH ?_
  simp only [List.setIfInBounds_toArray, List.set_cons_zero, List.set_cons_succ]
  refine wpAnyH_take_at (i := 6) 11 undef rfl rfl (by kernel_rfl) (by kernel_rfl) (by kernel_rfl) (fun _ _ _ h => h) (.inr ⟨by kernel_rfl, rfl⟩) hH ?_
  simp only [List.setIfInBounds_toArray, List.set_cons_zero, List.set_cons_succ]
  refine wpAnyH_take_at (i := 7) 12 undef rfl rfl (by kernel_rfl) (by kernel_rfl) (by kernel_rfl) (fun _ _ _ h => h) (.inr ⟨by kernel_rfl, rfl⟩) hH ?_
  simp only [List.setIfInBounds_toArray, List.set_cons_zero, List.set_cons_succ]
  refine wpAnyH_take_at (i := 8) 13 undef rfl rfl (by kernel_rfl) (by kernel_rfl) (by kernel_rfl) (fun _ _ _ h => h) (.inr ⟨by kernel_rfl, rfl⟩) hH ?_
  simp only [List.setIfInBounds_toArray, List.set_cons_zero, List.set_cons_succ]
  refine wpAnyH_take_at (i := 9) 14 undef rfl rfl (by kernel_rfl) (by kernel_rfl) (by kernel_rfl) (fun _ _ _ h => h) (.inr ⟨by kernel_rfl, rfl⟩) hH ?_
  simp only [List.setIfInBounds_toArray, List.set_cons_zero, List.set_cons_succ]
  refine wpAnyH_take_ex (i := 10) 15 rfl rfl (by kernel_rfl) (by kernel_rfl) (by kernel_rfl) (fun _ _ _ _ h => h) (by kernel_rfl) hH ?_
  apply Exists.intro
  apply And.intro
  · intro w9 _
    go_simp
    first | done | rfl
  simp only [List.setIfInBounds_toArray, List.set_cons_zero, List.set_cons_succ]
  refine wpAnyH_take_ex (i := 11) 4 rfl rfl (by kernel_rfl) (by kernel_rfl) (by kernel_rfl) (fun _ _ _ _ h => h) (by kernel_rfl) hH ?_
  apply Exists.intro
  apply And.intro
  · intro w9 _
    go_simp
    first | done | rfl
  simp only [List.setIfInBounds_toArray, List.set_cons_zero, List.set_cons_succ]
  refine wpAnyH_done (by kernel_rfl) ?_ _
  refine NoPanic.normal ?_
  go_wp2
  go_ret
  rw [HFIN.out]
  exact ⟨rfl, K1.out.onto K2⟩

set_option maxRecDepth 100000 in
set_option maxHeartbeats 6400000 in
theorem check_ok10 (p : Cg) (hp : p.Ok) (v : List UInt8) (hv : v.length = 32) (hr : Cm.right p = true) (w : World) (htab : Tab w) : Calls Tryd.prog 13 #[.agg p.cells.toArray, .agg (bcells v).toArray] w fun e w' => e = .returned (.bool (Cm.checks p v)) ∧ Kept w.heap.size w.heap.size w w' := by
  have HLD := Lib.hid (fun (x : World) (b : Nat) (h : x.heap[b]? = some (.cells p.cells.toArray 27 (0, 0))) => load_cg h hp)
  have HLS := Lib.hid (fun (x : World) (b : Nat) (h : x.heap[b]? = some (.cells p.cells.toArray 27 (0, 0))) => load_hash (cg_sign h hp) hp.2.2)
  have HLV := Lib.hid (fun (x : World) (b : Nat) (h : x.heap[b]? = some (.cells (bcells v).toArray 23 (0, 0))) => load_row_hash hv h)
  have HRI := Lib.hid (fun x => right_calls10 p hp x)
  rw [hr] at HRI
  have HTO := Lib.hid (fun (x : World) (k : Kept w.heap.size w.heap.size w x) => textof_calls p hp hr x (htab.onto k))
  have HCK := Lib.hid (fun x => check_calls v p.sign (Lib.hid hv) (Lib.hid hp.2.2) (str (Cm.text p)) (by rw [str_size]; have := Cm.text_le hp; omega) x)
  rw [str_back] at HCK
  have HFIN : Hid (Cm.checks p v = (p.sign == Pm.sign v (Cm.text p))) := Lib.hid (by rw [Cm.checks, hr, Bool.true_and])
  obtain ⟨q, hq⟩ : ∃ q, q = (p.sign == Pm.sign v (Cm.text p)) := ⟨_, rfl⟩
  obtain ⟨ts, hts⟩ : ∃ t, t = str (Cm.text p) := ⟨_, rfl⟩
  obtain ⟨D, hD⟩ : ∃ D, D = p.cells.toArray := ⟨_, rfl⟩
  obtain ⟨vc, hvc⟩ : ∃ D, D = (bcells v).toArray := ⟨_, rfl⟩
  obtain ⟨sc, hsc⟩ : ∃ s, s = (bcells p.sign).toArray := ⟨_, rfl⟩
  rw [← hD] at HLD HLS HRI HTO ⊢
  rw [← hvc] at HLV HCK ⊢
  rw [← hsc] at HLS HCK
  rw [← hts] at HTO HCK
  rw [← hq] at HCK HFIN
  clear hD hvc hsc hts hq hr hp hv htab
  go_enter Tryd.func13, Tryd.ntmps13
  go_upto_region 1 with fail
  have R1 : ((w.alloc (.cells D 27)).alloc (.cells vc 23)).heap[w.heap.size]? = some (.cells D 27 (0, 0)) := heap_alloc2_old w _ _
  have R2 : ((w.alloc (.cells D 27)).alloc (.cells vc 23)).heap[w.heap.size + 1]? = some (.cells vc 23 (0, 0)) := heap_alloc2_last w _ _
  have k1 : Kept w.heap.size w.heap.size w ((w.alloc (.cells D 27)).alloc (.cells vc 23)) := ((Kept.refl _ _ _).alloc (Nat.le_refl _) _).alloc (by simp) _
  generalize (w.alloc (.cells D 27)).alloc (.cells vc 23) = w1 at R1 R2 k1 ⊢
  obtain ⟨pb, hpb⟩ : ∃ pb, pb = w.heap.size := ⟨_, rfl⟩
  rw [← hpb] at R1 R2
  (try rw [← hpb])
  clear hpb
  have K1 := Lib.hid k1
  have HLP := Lib.hid (fun (x : World) (k : Kept w1.heap.size w1.heap.size w1 x) => HLD.out x pb (row_kept R1 k))
  have HLG := Lib.hid (fun (x : World) (k : Kept w1.heap.size w1.heap.size w1 x) => HLS.out x pb (row_kept R1 k))
  have HLK := Lib.hid (fun (x : World) (k : Kept w1.heap.size w1.heap.size w1 x) => HLV.out x (pb + 1) (row_kept R2 k))
  have KD : Kept w1.heap.size w1.heap.size w1 w1.drew := (Kept.refl _ _ _).drew
  clear k1 R1 R2 HLD HLS HLV
  refine wp_region_noPanic ?_
  refine wp_region_held_drew (S := fun w' => Kept w1.heap.size w1.heap.size w1 w') (by kernel_rfl) ((Kept.refl _ _ _).drew) (fun hH => ?_)
  refine wpAnyH_take_at (i := 0) 5 (.agg D) rfl rfl (by kernel_rfl) (by kernel_rfl) (by kernel_rfl) (fun _ _ _ h => h) (yieldsIf_load_known (by kernel_rfl) 27 _ rfl (pb) (0) rfl (.agg D) (HLP.out)) hH ?_
  simp only [List.setIfInBounds_toArray, List.set_cons_zero, List.set_cons_succ]
  refine wpAnyH_ready (rs := [1]) (by kernel_rfl) (by simp) ?_
  refine AllReadyH.cons rfl (fun K hK => ?_) AllReadyH.nil
  rw [if_pos (by rfl)]
  go_simp
  go_wp2_with (go_at_call 9; refine (HRI.out _).mono ?_; rintro e w2 ⟨rfl, kw2⟩)
  have K2 : Kept w1.heap.size w1.heap.size w1 w2 := KD.trans (kw2.mono KD.size (fun i hi _ => Nat.ne_of_lt (Nat.lt_of_lt_of_le hi KD.size)))
  refine hK.out _ _ (K2) (fun hH => ?_)
  clear hK K
  refine wpAnyH_take_ex (i := 2) 7 rfl rfl (by kernel_rfl) (by kernel_rfl) (by kernel_rfl) (fun _ _ _ _ h => h) (by kernel_rfl) hH ?_
  apply Exists.intro
  apply And.intro
  · intro w9 _
    go_simp
    first | done | rfl
  simp only [List.setIfInBounds_toArray, List.set_cons_zero, List.set_cons_succ]
  refine wpAnyH_take_at (i := 3) 8 (.agg vc) rfl rfl (by kernel_rfl) (by kernel_rfl) (by kernel_rfl) (fun _ _ _ h => h) (yieldsIf_load_known (by kernel_rfl) 23 _ rfl (pb + 1) (0) rfl (.agg vc) (HLK.out)) hH ?_
  simp only [List.setIfInBounds_toArray, List.set_cons_zero, List.set_cons_succ]
  refine wpAnyH_take_at (i := 4) 9 (.agg D) rfl rfl (by kernel_rfl) (by kernel_rfl) (by kernel_rfl) (fun _ _ _ h => h) (yieldsIf_load_known (by kernel_rfl) 27 _ rfl (pb) (0) rfl (.agg D) (HLP.out)) hH ?_
  simp only [List.setIfInBounds_toArray, List.set_cons_zero, List.set_cons_succ]
  refine wpAnyH_take_ex (i := 6) 11 rfl rfl (by kernel_rfl) (by kernel_rfl) (by kernel_rfl) (fun _ _ _ _ h => h) (by kernel_rfl) hH ?_
  apply Exists.intro
  apply And.intro
  · intro w9 _
    go_simp
    first | done | rfl
  simp only [List.setIfInBounds_toArray, List.set_cons_zero, List.set_cons_succ]
  refine wpAnyH_take_at (i := 7) 12 (.agg sc) rfl rfl (by kernel_rfl) (by kernel_rfl) (by kernel_rfl) (fun _ _ _ h => h) (yieldsIf_load_known (by kernel_rfl) 23 _ rfl (pb) (69) rfl (.agg sc) (HLG.out)) hH ?_
  simp only [List.setIfInBounds_toArray, List.set_cons_zero, List.set_cons_succ]
  refine wpAnyH_ready (rs := [5]) (by kernel_rfl) (by simp) ?_
  refine AllReadyH.cons rfl (fun K hK => ?_) AllReadyH.nil
  rw [if_pos (by rfl)]
  go_simp
  go_wp2_with (go_at_call 28; refine (HTO.out _ (K1.out.onto K2)).mono ?_; rintro e w3 ⟨rfl, kw3⟩)
  have K3 : Kept w1.heap.size w1.heap.size w1 w3 := K2.trans (kw3.mono K2.size (fun i hi _ => Nat.ne_of_lt (Nat.lt_of_lt_of_le hi K2.size)))
  refine hK.out _ _ (K3) (fun hH => ?_)
  clear hK K
  refine wpAnyH_ready (rs := [8]) (by kernel_rfl) (by simp) ?_
  refine AllReadyH.cons rfl (fun K hK => ?_) AllReadyH.nil
  rw [if_pos (by rfl)]
  go_simp
  go_wp2_with (go_at_call 27; refine (HCK.out _).mono ?_; rintro e w4 ⟨rfl, kw4⟩)
  have K4 : Kept w1.heap.size w1.heap.size w1 w4 := K3.trans (kw4.mono K3.size (fun i hi _ => Nat.ne_of_lt (Nat.lt_of_lt_of_le hi K3.size)))
  refine hK.out _ _ (K4) (fun hH => ?_)
  clear hK K
  refine wpAnyH_take_ex (i := 9) 14 rfl rfl (by kernel_rfl) (by kernel_rfl) (by kernel_rfl) (fun _ _ _ _ h => h) (by kernel_rfl) hH ?_
  apply Exists.intro
  apply And.intro
  · intro w9 _
    go_simp
    first | done | rfl
  simp only [List.setIfInBounds_toArray, List.set_cons_zero, List.set_cons_succ]
  refine wpAnyH_take_ex (i := 10) 4 rfl rfl (by kernel_rfl) (by kernel_rfl) (by kernel_rfl) (fun _ _ _ _ h => h) (by kernel_rfl) hH ?_
  apply Exists.intro
  apply And.intro
  · intro w9 _
    go_simp
    first | done | rfl
  simp only [List.setIfInBounds_toArray, List.set_cons_zero, List.set_cons_succ]
  refine wpAnyH_done (by kernel_rfl) ?_ _
  refine NoPanic.normal ?_
  go_wp2
  go_ret
  rw [HFIN.out]
  exact ⟨rfl, K1.out.onto K4⟩

set_option maxRecDepth 100000 in
set_option maxHeartbeats 6400000 in
theorem refcheck_ok10 (p : Cg) (hp : p.Ok) (v : List UInt8) (hv : v.length = 32) (hr : Cm.right p = true) (w : World) : Calls Tryd.prog 14 #[.agg p.cells.toArray, .agg (bcells v).toArray] w fun e w' => e = .returned (.bool (Cm.checks p v)) ∧ Kept w.heap.size w.heap.size w w' := by
  have HLD := Lib.hid (fun (x : World) (b : Nat) (h : x.heap[b]? = some (.cells p.cells.toArray 27 (0, 0))) => load_cg h hp)
  have HLS := Lib.hid (fun (x : World) (b : Nat) (h : x.heap[b]? = some (.cells p.cells.toArray 27 (0, 0))) => load_hash (cg_sign h hp) hp.2.2)
  have HLV := Lib.hid (fun (x : World) (b : Nat) (h : x.heap[b]? = some (.cells (bcells v).toArray 23 (0, 0))) => load_row_hash hv h)
  have HRI := Lib.hid (fun x => refright_calls10 p hp x)
  rw [hr] at HRI
  have HTO := Lib.hid (fun (x : World) => reftext_calls10 p hp hr x)
  have HSG := Lib.hid (fun x => refsign_calls v (Lib.hid hv) (str (Cm.text p)) (by rw [str_size]; have := Cm.text_le hp; omega) x)
  rw [str_back] at HSG
  have HEQ := Lib.hid (fun x => hash_equalIn x p.sign (Pm.sign v (Cm.text p)) hp.2.2 (Pm.sign_length _ _))
  have HFIN : Hid (Cm.checks p v = (p.sign == Pm.sign v (Cm.text p))) := Lib.hid (by rw [Cm.checks, hr, Bool.true_and])
  obtain ⟨q, hq⟩ : ∃ q, q = (p.sign == Pm.sign v (Cm.text p)) := ⟨_, rfl⟩
  obtain ⟨ts, hts⟩ : ∃ t, t = str (Cm.text p) := ⟨_, rfl⟩
  obtain ⟨gc, hgc⟩ : ∃ t, t = (bcells (Pm.sign v (Cm.text p))).toArray := ⟨_, rfl⟩
  obtain ⟨D, hD⟩ : ∃ D, D = p.cells.toArray := ⟨_, rfl⟩
  obtain ⟨vc, hvc⟩ : ∃ D, D = (bcells v).toArray := ⟨_, rfl⟩
  obtain ⟨sc, hsc⟩ : ∃ s, s = (bcells p.sign).toArray := ⟨_, rfl⟩
  rw [← hD] at HLD HLS HRI HTO ⊢
  rw [← hvc] at HLV HSG ⊢
  rw [← hsc] at HLS HEQ
  rw [← hts] at HTO HSG
  rw [← hq] at HEQ HFIN
  rw [← hgc] at HEQ HSG
  clear hD hvc hsc hts hq hgc hr hp hv
  go_enter Tryd.func14, Tryd.ntmps14
  go_upto_region 1 with fail
  have R1 : ((w.alloc (.cells D 27)).alloc (.cells vc 23)).heap[w.heap.size]? = some (.cells D 27 (0, 0)) := heap_alloc2_old w _ _
  have R2 : ((w.alloc (.cells D 27)).alloc (.cells vc 23)).heap[w.heap.size + 1]? = some (.cells vc 23 (0, 0)) := heap_alloc2_last w _ _
  have k1 : Kept w.heap.size w.heap.size w ((w.alloc (.cells D 27)).alloc (.cells vc 23)) := ((Kept.refl _ _ _).alloc (Nat.le_refl _) _).alloc (by simp) _
  generalize (w.alloc (.cells D 27)).alloc (.cells vc 23) = w1 at R1 R2 k1 ⊢
  obtain ⟨pb, hpb⟩ : ∃ pb, pb = w.heap.size := ⟨_, rfl⟩
  rw [← hpb] at R1 R2
  (try rw [← hpb])
  clear hpb
  have K1 := Lib.hid k1
  have HLP := Lib.hid (fun (x : World) (k : Kept w1.heap.size w1.heap.size w1 x) => HLD.out x pb (row_kept R1 k))
  have HLG := Lib.hid (fun (x : World) (k : Kept w1.heap.size w1.heap.size w1 x) => HLS.out x pb (row_kept R1 k))
  have HLK := Lib.hid (fun (x : World) (k : Kept w1.heap.size w1.heap.size w1 x) => HLV.out x (pb + 1) (row_kept R2 k))
  have KD : Kept w1.heap.size w1.heap.size w1 w1.drew := (Kept.refl _ _ _).drew
  clear k1 R1 R2 HLD HLS HLV
  refine wp_region_noPanic ?_
  refine wp_region_held_drew (S := fun w' => Kept w1.heap.size w1.heap.size w1 w') (by kernel_rfl) ((Kept.refl _ _ _).drew) (fun hH => ?_)
  refine wpAnyH_take_at (i := 0) 5 (.agg D) rfl rfl (by kernel_rfl) (by kernel_rfl) (by kernel_rfl) (fun _ _ _ h => h) (yieldsIf_load_known (by kernel_rfl) 27 _ rfl (pb) (0) rfl (.agg D) (HLP.out)) hH ?_
  simp only [List.setIfInBounds_toArray, List.set_cons_zero, List.set_cons_succ]
  refine wpAnyH_ready (rs := [1]) (by kernel_rfl) (by simp) ?_
  refine AllReadyH.cons rfl (fun K hK => ?_) AllReadyH.nil
  rw [if_pos (by rfl)]
  go_simp
  go_wp2_with (go_at_call 10; refine (HRI.out _).mono ?_; rintro e w2 ⟨rfl, kw2⟩)
  have K2 : Kept w1.heap.size w1.heap.size w1 w2 := KD.trans (kw2.mono KD.size (fun i hi _ => Nat.ne_of_lt (Nat.lt_of_lt_of_le hi KD.size)))
  refine hK.out _ _ (K2) (fun hH => ?_)
  clear hK K
  refine wpAnyH_take_ex (i := 2) 7 rfl rfl (by kernel_rfl) (by kernel_rfl) (by kernel_rfl) (fun _ _ _ _ h => h) (by kernel_rfl) hH ?_
  apply Exists.intro
  apply And.intro
  · intro w9 _
    go_simp
    first | done | rfl
  simp only [List.setIfInBounds_toArray, List.set_cons_zero, List.set_cons_succ]
  refine wpAnyH_take_ex (i := 3) 8 rfl rfl (by kernel_rfl) (by kernel_rfl) (by kernel_rfl) (fun _ _ _ _ h => h) (by kernel_rfl) hH ?_
  apply Exists.intro
  apply And.intro
  · intro w9 _
    go_simp
    first | done | rfl
  simp only [List.setIfInBounds_toArray, List.set_cons_zero, List.set_cons_succ]
  refine wpAnyH_take_at (i := 4) 9 (.agg sc) rfl rfl (by kernel_rfl) (by kernel_rfl) (by kernel_rfl) (fun _ _ _ h => h) (yieldsIf_load_known (by kernel_rfl) 23 _ rfl (pb) (69) rfl (.agg sc) (HLG.out)) hH ?_
  simp only [List.setIfInBounds_toArray, List.set_cons_zero, List.set_cons_succ]
  refine wpAnyH_take_at (i := 5) 10 (.agg vc) rfl rfl (by kernel_rfl) (by kernel_rfl) (by kernel_rfl) (fun _ _ _ h => h) (yieldsIf_load_known (by kernel_rfl) 23 _ rfl (pb + 1) (0) rfl (.agg vc) (HLK.out)) hH ?_
  simp only [List.setIfInBounds_toArray, List.set_cons_zero, List.set_cons_succ]
  refine wpAnyH_take_at (i := 6) 11 (.agg D) rfl rfl (by kernel_rfl) (by kernel_rfl) (by kernel_rfl) (fun _ _ _ h => h) (yieldsIf_load_known (by kernel_rfl) 27 _ rfl (pb) (0) rfl (.agg D) (HLP.out)) hH ?_
  simp only [List.setIfInBounds_toArray, List.set_cons_zero, List.set_cons_succ]
  refine wpAnyH_ready (rs := [7]) (by kernel_rfl) (by simp) ?_
  refine AllReadyH.cons rfl (fun K hK => ?_) AllReadyH.nil
  rw [if_pos (by rfl)]
  go_simp
  go_wp2_with (go_at_call 30; refine (HTO.out _).mono ?_; rintro e w3 ⟨rfl, kw3⟩)
  have K3 : Kept w1.heap.size w1.heap.size w1 w3 := K2.trans (kw3.mono K2.size (fun i hi _ => Nat.ne_of_lt (Nat.lt_of_lt_of_le hi K2.size)))
  refine hK.out _ _ (K3) (fun hH => ?_)
  clear hK K
  refine wpAnyH_ready (rs := [8]) (by kernel_rfl) (by simp) ?_
  refine AllReadyH.cons rfl (fun K hK => ?_) AllReadyH.nil
  rw [if_pos (by rfl)]
  go_simp
  go_wp2_with (go_at_call 29; refine (HSG.out _).mono ?_; rintro e w4 ⟨rfl, kw4⟩)
  have K4 : Kept w1.heap.size w1.heap.size w1 w4 := K3.trans (kw4.mono K3.size (fun i hi _ => Nat.ne_of_lt (Nat.lt_of_lt_of_le hi K3.size)))
  refine hK.out _ _ (K4) (fun hH => ?_)
  clear hK K
  refine wpAnyH_take_at (i := 9) 14 (.bool q) rfl rfl (by kernel_rfl) (by kernel_rfl) (by kernel_rfl) (fun _ _ _ h => h) (yieldsIf_eql10 (by kernel_rfl) _ _ _ _ rfl (sc) (gc) rfl rfl macGuard25 (q) (HEQ.out)) hH ?_
  simp only [List.setIfInBounds_toArray, List.set_cons_zero, List.set_cons_succ]
  refine wpAnyH_take_ex (i := 10) 15 rfl rfl (by kernel_rfl) (by kernel_rfl) (by kernel_rfl) (fun _ _ _ _ h => h) (by kernel_rfl) hH ?_
  apply Exists.intro
  apply And.intro
  · intro w9 _
    go_simp
    first | done | rfl
  simp only [List.setIfInBounds_toArray, List.set_cons_zero, List.set_cons_succ]
  refine wpAnyH_take_ex (i := 11) 4 rfl rfl (by kernel_rfl) (by kernel_rfl) (by kernel_rfl) (fun _ _ _ _ h => h) (by kernel_rfl) hH ?_
  apply Exists.intro
  apply And.intro
  · intro w9 _
    go_simp
    first | done | rfl
  simp only [List.setIfInBounds_toArray, List.set_cons_zero, List.set_cons_succ]
  refine wpAnyH_done (by kernel_rfl) ?_ _
  refine NoPanic.normal ?_
  go_wp2
  go_ret
  rw [HFIN.out]
  exact ⟨rfl, K1.out.onto K4⟩

theorem check_calls10 (p : Cg) (hp : p.Ok) (v : List UInt8) (hv : v.length = 32) (w : World) (htab : Tab w) : Calls Tryd.prog 13 #[.agg p.cells.toArray, .agg (bcells v).toArray] w fun e w' => e = .returned (.bool (Cm.checks p v)) ∧ Kept w.heap.size w.heap.size w w' := by
  cases hr : Cm.right p
  · exact check_bad10 p hp v hv hr w
  · exact check_ok10 p hp v hv hr w htab
theorem refcheck_calls10 (p : Cg) (hp : p.Ok) (v : List UInt8) (hv : v.length = 32) (w : World) : Calls Tryd.prog 14 #[.agg p.cells.toArray, .agg (bcells v).toArray] w fun e w' => e = .returned (.bool (Cm.checks p v)) ∧ Kept w.heap.size w.heap.size w w' := by
  cases hr : Cm.right p
  · exact refcheck_bad10 p hp v hv hr w
  · exact refcheck_ok10 p hp v hv hr w

set_option maxRecDepth 100000 in
theorem alloc_hash10 (w : World) : (Instr.alloc 23 true (.tuple #[])).run Tryd.prog w = .ok (.pointer (some ⟨w.heap.size, 0, none⟩)) (w.alloc (.cells zeros32 23)) := by kernel_rfl

set_option maxRecDepth 100000 in
set_option maxHeartbeats 3200000 in
theorem verify_calls10 (k : List UInt8) (hk : k.length = 32) (w : World) : Calls Tryd.prog 20 #[.agg (bcells k).toArray] w fun e w' => e = .returned (.agg (bcells (Pm.ver k)).toArray) ∧ Kept w.heap.size w.heap.size w w' := by
  have HLV := Lib.hid (fun (x : World) (b : Nat) (h : x.heap[b]? = some (.cells (bcells k).toArray 23 (0, 0))) => load_row_hash hk h)
  have HVE := Lib.hid (fun x => refver_calls k (Lib.hid hk) x)
  have HIU := Lib.hid (show (Tryd.prog.info? 23).map (·.size) = some (bcells (Pm.ver k)).toArray.size by have := hashInfo10 (Pm.ver_length k); simpa using this)
  have HZU := Lib.hid (show zeros32.size = (bcells (Pm.ver k)).toArray.size by rw [zeros32_size, List.size_toArray, bcells_length, Pm.ver_length])
  have HAU := Lib.hid (bcells_all (Pm.ver k))
  obtain ⟨kc, hkc⟩ : ∃ D, D = (bcells k).toArray := ⟨_, rfl⟩
  obtain ⟨vc, hvc⟩ : ∃ D, D = (bcells (Pm.ver k)).toArray := ⟨_, rfl⟩
  rw [← hkc] at HLV HVE ⊢
  rw [← hvc] at HVE HIU HZU HAU ⊢
  clear hkc hvc hk
  go_enter Tryd.func20, Tryd.ntmps20
  go_upto_region 0 with fail
  refine wp_region_lit ?_
  refine @BigFrame.wpList_want _ _ _ _ _ _ _ ?hw75001 ?_
  case hw75001 => kernel_rfl
  intro K hK
  go_simp
  refine hK _ _ ?_
  clear hK K
  have R1 := heap_new w (.cells kc 23)
  have k1 : Kept w.heap.size w.heap.size w (w.alloc (.cells kc 23)) := (Kept.refl _ _ _).alloc (Nat.le_refl _) _
  generalize w.alloc (.cells kc 23) = w1 at R1 k1 ⊢
  obtain ⟨pb, hpb⟩ : ∃ pb, pb = w.heap.size := ⟨_, rfl⟩
  rw [← hpb] at R1
  (try rw [← hpb])
  clear hpb
  refine @wpL_alloc _ _ _ _ _ _ _ _ ?hw75002 23 rfl _ (alloc_hash10 _) ?_
  case hw75002 => kernel_rfl
  simp only [Act.put, List.setIfInBounds_toArray, List.set_cons_zero, List.set_cons_succ]
  have k2' : Kept w1.heap.size w1.heap.size w1 (w1.alloc (.cells zeros32 23)) := (Kept.refl _ _ _).alloc (Nat.le_refl _) _
  have r2 := heap_new w1 (.cells zeros32 23)
  have r1 := row_kept R1 k2'
  have K2 := Lib.hid (k1.onto k2')
  have HRW := Lib.hid (show w.heap.size ≤ w1.heap.size from k1.size)
  generalize w1.alloc (.cells zeros32 23) = w2 at r1 r2 K2 ⊢
  obtain ⟨rb, hrb⟩ : ∃ rb, rb = w1.heap.size := ⟨_, rfl⟩
  rw [← hrb] at r2 HRW
  (try rw [← hrb])
  clear hrb k2' k1 R1
  go_upto_region 1 with fail
  refine wp_region_lit ?_
  refine @wpList_load_known _ _ _ _ _ _ _ ?hw75004 23 (.tmp 1) rfl (pb) (0) rfl (.agg kc) (HLV.out _ _ r1) ?_
  case hw75004 => kernel_rfl
  simp only [Act.put, List.setIfInBounds_toArray, List.set_cons_zero, List.set_cons_succ]
  refine @BigFrame.wpList_want _ _ _ _ _ _ _ ?hw75003 ?_
  case hw75003 => kernel_rfl
  intro K hK
  go_simp
  go_at_call 35
  refine (HVE.out _).mono ?_
  rintro e w3 ⟨rfl, k3⟩
  refine hK _ _ ?_
  clear hK K
  have r3 := row_kept r2 k3
  refine wpList_store_row rfl 23 _ _ rfl (rb) vc rfl rfl 23 zeros32 r3 HIU.out HZU.out HAU.out ?_
  simp only [Act.put]
  have R9 := setRow_heap w3 rb zeros32 vc _ _ r3
  have k9 : Kept w.heap.size w.heap.size w (w3.setRow rb vc) := Kept.ofBelow (below_setRow ((K2.out.onto k3).below (Nat.le_refl _) (Nat.le_refl _)) HRW.out vc) (Nat.le_refl _)
  generalize w3.setRow rb vc = w9 at R9 k9 ⊢
  go_wp2
  refine bodyPost_ret (results_cell_row rfl _ _ rb 23 vc (0, 0) _ rfl R9 Tryd.underlying23 rfl HIU.out) rfl ?_
  exact ⟨rfl, k9⟩

end Go.Proofs.YtcjcomeakkjiiaaDoor

namespace Go.Proofs.YtcjcomeakkjiiaaDoor
open Go.RowKit Go.Lib

set_option maxRecDepth 100000 in
set_option maxHeartbeats 6400000 in
theorem pack_bad10 (p : Cg) (hp : p.Ok) (hr : Cm.right p = false) (w : World) : Calls Tryd.prog 17 #[.agg p.cells.toArray] w fun e w' => e = .returned (.string (str [])) ∧ Kept w.heap.size w.heap.size w w' := by
  have HLD := Lib.hid (fun (x : World) (b : Nat) (h : x.heap[b]? = some (.cells p.cells.toArray 27 (0, 0))) => load_cg h hp)
  have HLS := Lib.hid (fun (x : World) (b : Nat) (h : x.heap[b]? = some (.cells p.cells.toArray 27 (0, 0))) => load_hash (cg_sign h hp) hp.2.2)
  have HRI := Lib.hid (fun x => right_calls10 p hp x)
  rw [hr] at HRI
  obtain ⟨D, hD⟩ : ∃ D, D = p.cells.toArray := ⟨_, rfl⟩
  rw [← hD] at HLD HLS HRI ⊢
  clear hD hr hp
  go_enter Tryd.func17, Tryd.ntmps17
  go_upto_region 1 with fail
  have R1 := heap_new w (.cells D 27)
  have k1 : Kept w.heap.size w.heap.size w (w.alloc (.cells D 27)) := (Kept.refl _ _ _).alloc (Nat.le_refl _) _
  generalize w.alloc (.cells D 27) = w1 at R1 k1 ⊢
  obtain ⟨pb, hpb⟩ : ∃ pb, pb = w.heap.size := ⟨_, rfl⟩
  rw [← hpb] at R1
  (try rw [← hpb])
  clear hpb
  have K1 := Lib.hid k1
  have HLP := Lib.hid (fun (x : World) (k : Kept w1.heap.size w1.heap.size w1 x) => HLD.out x pb (row_kept R1 k))
  have HLG := Lib.hid (fun (x : World) (k : Kept w1.heap.size w1.heap.size w1 x) => HLS.out x pb (row_kept R1 k))
  clear k1 R1 HLD HLS
  refine wp_region_lit ?_
  refine @wpList_load_known _ _ _ _ _ _ _ ?hw75006 27 (.tmp 1) rfl (pb) (0) rfl (.agg D) (HLP.out _ (Kept.refl _ _ _)) ?_
  case hw75006 => kernel_rfl
  simp only [Act.put, List.setIfInBounds_toArray, List.set_cons_zero, List.set_cons_succ]
  refine @BigFrame.wpList_want _ _ _ _ _ _ _ ?hw75005 ?_
  case hw75005 => kernel_rfl
  intro K hK
  go_simp
  go_at_call 9
  refine (HRI.out _).mono ?_
  rintro e w2 ⟨rfl, k2⟩
  refine hK _ _ ?_
  clear hK K
  refine @BigFrame.wpList_want _ _ _ _ _ _ _ ?hw75007 ?_
  case hw75007 => kernel_rfl
  intro K hK
  go_simp
  refine hK _ _ ?_
  clear hK K
  go_wp2
  go_ret
  exact ⟨rfl, K1.out.onto k2⟩

set_option maxRecDepth 100000 in
set_option maxHeartbeats 6400000 in
theorem pack_ok10 (p : Cg) (hp : p.Ok) (hr : Cm.right p = true) (w : World) (htab : Tab w) : Calls Tryd.prog 17 #[.agg p.cells.toArray] w fun e w' => e = .returned (.string (str (Cm.packed p))) ∧ Kept w.heap.size w.heap.size w w' := by
  have HLD := Lib.hid (fun (x : World) (b : Nat) (h : x.heap[b]? = some (.cells p.cells.toArray 27 (0, 0))) => load_cg h hp)
  have HLS := Lib.hid (fun (x : World) (b : Nat) (h : x.heap[b]? = some (.cells p.cells.toArray 27 (0, 0))) => load_hash (cg_sign h hp) hp.2.2)
  have HRI := Lib.hid (fun x => right_calls10 p hp x)
  rw [hr] at HRI
  have HTO := Lib.hid (fun (x : World) (k : Kept w.heap.size w.heap.size w x) => textof_calls p hp hr x (htab.onto k))
  have hcv : ∀ (x : World) (b : Nat), x.heap[b]? = some (.cells p.cells.toArray 27 (0, 0)) → (convert 53 9 (.slice (some ⟨b, 69, none⟩) 32 32)).run Tryd.prog x = .ok (.string (str p.sign)) x := fun x b h => by
    have := conv_at x b 69 32 p.sign (fun j hj => cg_sign h hp j _ (by simp [bcells, hj]))
    rwa [hp.2.2] at this
  have HCW := Lib.hid hcv
  obtain ⟨ts, hts⟩ : ∃ t, t = str (Cm.text p) := ⟨_, rfl⟩
  obtain ⟨sg, hsg⟩ : ∃ t, t = str p.sign := ⟨_, rfl⟩
  have HFIN : Hid (str (Cm.packed p) = ts ++ sg) := Lib.hid (by rw [Cm.packed, hts, hsg, str_append])
  have z1 : ts.size ≤ 104 := by rw [hts, str_size]; exact Cm.text_le hp
  have z2 : sg.size = 32 := by rw [hsg, str_size]; exact hp.2.2
  have g1 : ¬ 9223372036854775807 < ts.size + sg.size := by omega
  rw [← hts] at HTO
  rw [← hsg] at HCW
  obtain ⟨D, hD⟩ : ∃ D, D = p.cells.toArray := ⟨_, rfl⟩
  rw [← hD] at HLD HLS HRI HTO HCW ⊢
  clear hD hr hp htab hcv hts hsg z1 z2
  go_enter Tryd.func17, Tryd.ntmps17
  go_upto_region 1 with fail
  have R1 := heap_new w (.cells D 27)
  have k1 : Kept w.heap.size w.heap.size w (w.alloc (.cells D 27)) := (Kept.refl _ _ _).alloc (Nat.le_refl _) _
  generalize w.alloc (.cells D 27) = w1 at R1 k1 ⊢
  obtain ⟨pb, hpb⟩ : ∃ pb, pb = w.heap.size := ⟨_, rfl⟩
  rw [← hpb] at R1
  (try rw [← hpb])
  clear hpb
  have K1 := Lib.hid k1
  have HLP := Lib.hid (fun (x : World) (k : Kept w1.heap.size w1.heap.size w1 x) => HLD.out x pb (row_kept R1 k))
  have HLG := Lib.hid (fun (x : World) (k : Kept w1.heap.size w1.heap.size w1 x) => HLS.out x pb (row_kept R1 k))
  have HCV := Lib.hid (fun (x : World) (k : Kept w1.heap.size w1.heap.size w1 x) => HCW.out x pb (row_kept R1 k))
  clear k1 R1 HLD HLS
  refine wp_region_lit ?_
  refine @wpList_load_known _ _ _ _ _ _ _ ?hw75009 27 (.tmp 1) rfl (pb) (0) rfl (.agg D) (HLP.out _ (Kept.refl _ _ _)) ?_
  case hw75009 => kernel_rfl
  simp only [Act.put, List.setIfInBounds_toArray, List.set_cons_zero, List.set_cons_succ]
  refine @BigFrame.wpList_want _ _ _ _ _ _ _ ?hw75008 ?_
  case hw75008 => kernel_rfl
  intro K hK
  go_simp
  go_at_call 9
  refine (HRI.out _).mono ?_
  rintro e w2 ⟨rfl, k2⟩
  refine hK _ _ ?_
  clear hK K
  refine @BigFrame.wpList_want _ _ _ _ _ _ _ ?hw75010 ?_
  case hw75010 => kernel_rfl
  intro K hK
  go_simp
  refine hK _ _ ?_
  clear hK K
  go_upto_region 3 with fail
  have KD : Kept w1.heap.size w1.heap.size w1 w2.drew := k2.drew
  refine wp_region_noPanic ?_
  refine wp_region_held_drew (S := fun w' => Kept w1.heap.size w1.heap.size w1 w') (by kernel_rfl) (KD) (fun hH => ?_)
  refine wpAnyH_take_at (i := 0) 6 (.agg D) rfl rfl (by kernel_rfl) (by kernel_rfl) (by kernel_rfl) (fun _ _ _ h => h) (yieldsIf_load_known (by kernel_rfl) 27 _ rfl (pb) (0) rfl (.agg D) (HLP.out)) hH ?_
  simp only [List.setIfInBounds_toArray, List.set_cons_zero, List.set_cons_succ]
  refine wpAnyH_take_ex (i := 2) 8 rfl rfl (by kernel_rfl) (by kernel_rfl) (by kernel_rfl) (fun _ _ _ _ h => h) (by kernel_rfl) hH ?_
  apply Exists.intro
  apply And.intro
  · intro w9 _
    go_simp
    first | done | rfl
  simp only [List.setIfInBounds_toArray, List.set_cons_zero, List.set_cons_succ]
  refine wpAnyH_take_ex (i := 3) 9 rfl rfl (by kernel_rfl) (by kernel_rfl) (by kernel_rfl) (fun _ _ _ _ h => h) (by kernel_rfl) hH ?_
  apply Exists.intro
  apply And.intro
  · intro w9 _
    go_simp
    first | done | rfl
  simp only [List.setIfInBounds_toArray, List.set_cons_zero, List.set_cons_succ]
  refine wpAnyH_take_at (i := 4) 10 (.string sg) rfl rfl (by kernel_rfl) (by kernel_rfl) (by kernel_rfl) (fun _ _ _ h => h) (.inl ⟨by kernel_rfl, fun w9 hw9 => by have hcv := HCV.out w9 hw9; go_simp⟩) hH ?_
  simp only [List.setIfInBounds_toArray, List.set_cons_zero, List.set_cons_succ]
  refine wpAnyH_ready (rs := [1]) (by kernel_rfl) (by simp) ?_
  refine AllReadyH.cons rfl (fun K hK => ?_) AllReadyH.nil
  rw [if_pos (by rfl)]
  go_simp
  go_wp2_with (go_at_call 28; refine (HTO.out _ (K1.out.onto KD)).mono ?_; rintro e w3 ⟨rfl, kw3⟩)
  have K3 : Kept w1.heap.size w1.heap.size w1 w3 := KD.trans (kw3.mono KD.size (fun i hi _ => Nat.ne_of_lt (Nat.lt_of_lt_of_le hi KD.size)))
  refine hK.out _ _ (K3) (fun hH => ?_)
  clear hK K
  refine wpAnyH_take_ex (i := 5) 11 rfl rfl (by kernel_rfl) (by kernel_rfl) (by kernel_rfl) (fun _ _ _ _ h => h) (by kernel_rfl) hH ?_
  apply Exists.intro
  apply And.intro
  · intro w9 _
    go_simp
    first | done | rfl
  simp only [List.setIfInBounds_toArray, List.set_cons_zero, List.set_cons_succ]
  refine wpAnyH_take_ex (i := 6) 2 rfl rfl (by kernel_rfl) (by kernel_rfl) (by kernel_rfl) (fun _ _ _ _ h => h) (by kernel_rfl) hH ?_
  apply Exists.intro
  apply And.intro
  · intro w9 _
    go_simp
    first | done | rfl
  simp only [List.setIfInBounds_toArray, List.set_cons_zero, List.set_cons_succ]
  refine wpAnyH_done (by kernel_rfl) ?_ _
  refine NoPanic.normal ?_
  go_wp2
  go_ret
  rw [HFIN.out]
  exact ⟨rfl, K1.out.onto K3⟩

set_option maxRecDepth 100000 in
set_option maxHeartbeats 6400000 in
theorem refpack_calls10 (p : Cg) (hp : p.Ok) (hr : Cm.right p = true) (w : World) : Calls Tryd.prog 22 #[.agg p.cells.toArray] w fun e w' => e = .returned (.string (str (Cm.packed p))) ∧ Kept w.heap.size w.heap.size w w' := by
  have HLD := Lib.hid (fun (x : World) (b : Nat) (h : x.heap[b]? = some (.cells p.cells.toArray 27 (0, 0))) => load_cg h hp)
  have HLS := Lib.hid (fun (x : World) (b : Nat) (h : x.heap[b]? = some (.cells p.cells.toArray 27 (0, 0))) => load_hash (cg_sign h hp) hp.2.2)
  have HTO := Lib.hid (fun (x : World) => reftext_calls10 p hp hr x)
  have HRH := Lib.hid (fun x => refhash p.sign hp.2.2 x)
  obtain ⟨ts, hts⟩ : ∃ t, t = str (Cm.text p) := ⟨_, rfl⟩
  obtain ⟨sg, hsg⟩ : ∃ t, t = str p.sign := ⟨_, rfl⟩
  have HFIN : Hid (str (Cm.packed p) = ts ++ sg) := Lib.hid (by rw [Cm.packed, hts, hsg, str_append])
  have z1 : ts.size ≤ 104 := by rw [hts, str_size]; exact Cm.text_le hp
  have z2 : sg.size = 32 := by rw [hsg, str_size]; exact hp.2.2
  have g1 : ¬ 9223372036854775807 < ts.size + sg.size := by omega
  rw [← hts] at HTO
  rw [← hsg] at HRH
  obtain ⟨sc, hsc⟩ : ∃ s, s = (bcells p.sign).toArray := ⟨_, rfl⟩
  obtain ⟨D, hD⟩ : ∃ D, D = p.cells.toArray := ⟨_, rfl⟩
  rw [← hD] at HLD HLS HTO ⊢
  rw [← hsc] at HLS HRH
  clear hD hr hp hts hsg hsc z1 z2
  go_enter Tryd.func22, Tryd.ntmps22
  go_upto_region 1 with fail
  have R1 := heap_new w (.cells D 27)
  have k1 : Kept w.heap.size w.heap.size w (w.alloc (.cells D 27)) := (Kept.refl _ _ _).alloc (Nat.le_refl _) _
  generalize w.alloc (.cells D 27) = w1 at R1 k1 ⊢
  obtain ⟨pb, hpb⟩ : ∃ pb, pb = w.heap.size := ⟨_, rfl⟩
  rw [← hpb] at R1
  (try rw [← hpb])
  clear hpb
  have K1 := Lib.hid k1
  have HLP := Lib.hid (fun (x : World) (k : Kept w1.heap.size w1.heap.size w1 x) => HLD.out x pb (row_kept R1 k))
  have HLG := Lib.hid (fun (x : World) (k : Kept w1.heap.size w1.heap.size w1 x) => HLS.out x pb (row_kept R1 k))
  clear k1 R1 HLD HLS
  have KD : Kept w1.heap.size w1.heap.size w1 w1.drew := (Kept.refl _ _ _).drew
  refine wp_region_noPanic ?_
  refine wp_region_held_drew (S := fun w' => Kept w1.heap.size w1.heap.size w1 w') (by kernel_rfl) ((Kept.refl _ _ _).drew) (fun hH => ?_)
  refine wpAnyH_take_at (i := 0) 3 (.agg D) rfl rfl (by kernel_rfl) (by kernel_rfl) (by kernel_rfl) (fun _ _ _ h => h) (yieldsIf_load_known (by kernel_rfl) 27 _ rfl (pb) (0) rfl (.agg D) (HLP.out)) hH ?_
  simp only [List.setIfInBounds_toArray, List.set_cons_zero, List.set_cons_succ]
  refine wpAnyH_take_ex (i := 2) 5 rfl rfl (by kernel_rfl) (by kernel_rfl) (by kernel_rfl) (fun _ _ _ _ h => h) (by kernel_rfl) hH ?_
  apply Exists.intro
  apply And.intro
  · intro w9 _
    go_simp
    first | done | rfl
  simp only [List.setIfInBounds_toArray, List.set_cons_zero, List.set_cons_succ]
  refine wpAnyH_take_at (i := 3) 6 (.agg sc) rfl rfl (by kernel_rfl) (by kernel_rfl) (by kernel_rfl) (fun _ _ _ h => h) (yieldsIf_load_known (by kernel_rfl) 23 _ rfl (pb) (69) rfl (.agg sc) (HLG.out)) hH ?_
  simp only [List.setIfInBounds_toArray, List.set_cons_zero, List.set_cons_succ]
  refine wpAnyH_ready (rs := [1]) (by kernel_rfl) (by simp) ?_
  refine AllReadyH.cons rfl (fun K hK => ?_) AllReadyH.nil
  rw [if_pos (by rfl)]
  go_simp
  go_wp2_with (go_at_call 30; refine (HTO.out _).mono ?_; rintro e w3 ⟨rfl, kw3⟩)
  have K3 : Kept w1.heap.size w1.heap.size w1 w3 := KD.trans (kw3.mono KD.size (fun i hi _ => Nat.ne_of_lt (Nat.lt_of_lt_of_le hi KD.size)))
  refine hK.out _ _ (K3) (fun hH => ?_)
  clear hK K
  refine wpAnyH_ready (rs := [4]) (by kernel_rfl) (by simp) ?_
  refine AllReadyH.cons rfl (fun K hK => ?_) AllReadyH.nil
  rw [if_pos (by rfl)]
  go_simp
  go_wp2_with (go_at_call 37; refine (HRH.out _).mono ?_; rintro e w4 ⟨rfl, kw4⟩)
  have K4 : Kept w1.heap.size w1.heap.size w1 w4 := K3.trans (kw4.mono K3.size (fun i hi _ => Nat.ne_of_lt (Nat.lt_of_lt_of_le hi K3.size)))
  refine hK.out _ _ (K4) (fun hH => ?_)
  clear hK K
  refine wpAnyH_take_ex (i := 5) 8 rfl rfl (by kernel_rfl) (by kernel_rfl) (by kernel_rfl) (fun _ _ _ _ h => h) (by kernel_rfl) hH ?_
  apply Exists.intro
  apply And.intro
  · intro w9 _
    go_simp
    first | done | rfl
  simp only [List.setIfInBounds_toArray, List.set_cons_zero, List.set_cons_succ]
  refine wpAnyH_take_ex (i := 6) 2 rfl rfl (by kernel_rfl) (by kernel_rfl) (by kernel_rfl) (fun _ _ _ _ h => h) (by kernel_rfl) hH ?_
  apply Exists.intro
  apply And.intro
  · intro w9 _
    go_simp
    first | done | rfl
  simp only [List.setIfInBounds_toArray, List.set_cons_zero, List.set_cons_succ]
  refine wpAnyH_done (by kernel_rfl) ?_ _
  refine NoPanic.normal ?_
  go_wp2
  go_ret
  rw [HFIN.out]
  exact ⟨rfl, K1.out.onto K4⟩

end Go.Proofs.YtcjcomeakkjiiaaDoor

namespace Go.Proofs.YtcjcomeakkjiiaaDoor
open Go.RowKit Go.Lib

namespace Cm
def exA : Cg := ⟨z32, 0, 3, 1, 2, 3, z32, z32⟩
def exB : Cg := ⟨z32, 0, 3, 2, 3, 2, z32, z32⟩
def k1 : List UInt8 := 1 :: List.replicate 31 0
theorem exA_ok : exA.Ok := ⟨rfl, rfl, rfl⟩
theorem exB_ok : exB.Ok := ⟨rfl, rfl, rfl⟩
theorem exA_right : right exA = true := by decide +kernel
theorem exB_right : right exB = true := by decide +kernel
theorem zero_right : right zero = false := by decide +kernel
theorem less_ab : less exA exB = true := by decide +kernel
theorem less_ba : less exB exA = false := by decide +kernel
end Cm
section
variable {P : Program} {ops : Array Oper} {a : Act} {rest : List Oper} {o : Oper} {w : World} {Q : Exit → Act → World → Prop}
theorem wpL_build2 (hw : Region.wanted o (yielded ops a.tmps) = true) (t : TypeId) (i j : Nat) (x y : Operand) (ho : o.op = .build t #[(i, x), (j, y)]) (vx vy : Value) (hx : a.eval x = vx) (hy : a.eval y = vy) {u : Value} (hr : (Instr.build t #[(i, vx), (j, vy)]).run P w = .ok u w) (hk : wpList P ops Q rest (a.put o.dst u) w) : wpList P ops Q (o :: rest) a w := by
  refine wpList_step fun K hK => ?_
  rw [if_pos hw]
  unfold Oper.wp execOp
  simp only [ho, List.map_toArray, List.map_cons, List.map_nil, hx, hy, Sem.run_bind, hr, Result.andThen_ok, Sem.run_pure]
  exact hK _ _ hk
theorem wpL_build3 (hw : Region.wanted o (yielded ops a.tmps) = true) (t : TypeId) (i j k : Nat) (x y z : Operand) (ho : o.op = .build t #[(i, x), (j, y), (k, z)]) (vx vy vz : Value) (hx : a.eval x = vx) (hy : a.eval y = vy) (hz : a.eval z = vz) {u : Value} (hr : (Instr.build t #[(i, vx), (j, vy), (k, vz)]).run P w = .ok u w) (hk : wpList P ops Q rest (a.put o.dst u) w) : wpList P ops Q (o :: rest) a w := by
  refine wpList_step fun K hK => ?_
  rw [if_pos hw]
  unfold Oper.wp execOp
  simp only [ho, List.map_toArray, List.map_cons, List.map_nil, hx, hy, hz, Sem.run_bind, hr, Result.andThen_ok, Sem.run_pure]
  exact hK _ _ hk
theorem wpL_build1 (hw : Region.wanted o (yielded ops a.tmps) = true) (t : TypeId) (i : Nat) (x : Operand) (ho : o.op = .build t #[(i, x)]) (vx : Value) (hx : a.eval x = vx) {u : Value} (hr : (Instr.build t #[(i, vx)]).run P w = .ok u w) (hk : wpList P ops Q rest (a.put o.dst u) w) : wpList P ops Q (o :: rest) a w := by
  refine wpList_step fun K hK => ?_
  rw [if_pos hw]
  unfold Oper.wp execOp
  simp only [ho, List.map_toArray, List.map_cons, List.map_nil, hx, Sem.run_bind, hr, Result.andThen_ok, Sem.run_pure]
  exact hK _ _ hk
end
set_option maxRecDepth 100000 in
theorem build_chA (w : World) : (Instr.build 25 #[(0, .int .i64 2), (1, .int .i64 3)]).run Tryd.prog w = .ok (.agg Cm.exA.chg.toArray) w := by kernel_rfl
set_option maxRecDepth 100000 in
theorem build_chB (w : World) : (Instr.build 25 #[(0, .int .i64 3), (1, .int .i64 2)]).run Tryd.prog w = .ok (.agg Cm.exB.chg.toArray) w := by kernel_rfl
set_option maxRecDepth 100000 in
theorem build_cgA (w : World) : (Instr.build 27 #[(2, .int .i64 3), (3, .int .i64 1), (4, .agg Cm.exA.chg.toArray)]).run Tryd.prog w = .ok (.agg Cm.exA.cells.toArray) w := by kernel_rfl
set_option maxRecDepth 100000 in
theorem build_cgB (w : World) : (Instr.build 27 #[(2, .int .i64 3), (3, .int .i64 2), (4, .agg Cm.exB.chg.toArray)]).run Tryd.prog w = .ok (.agg Cm.exB.cells.toArray) w := by kernel_rfl
set_option maxRecDepth 100000 in
theorem build_k1 (w : World) : (Instr.build 23 #[(0, .int .u8 1)]).run Tryd.prog w = .ok (.agg (bcells Cm.k1).toArray) w := by kernel_rfl
theorem yieldsIf_build0 {P : Program} {ops : Array Oper} {S : World → Prop} {op : Oper} {a : Act} (hw : Region.wanted op (yielded ops a.tmps) = true) (t : TypeId) (ho : op.op = .build t #[]) (r : Value) (hr : ∀ w, (Instr.build t #[]).run P w = .ok r w) : YieldsIf P ops S op r a :=
  .inl ⟨hw, fun w _ => by
    unfold execOp
    simp only [ho, List.map_toArray, List.map_nil, Sem.run_bind, hr, Result.andThen_ok, Sem.run_pure]⟩

set_option maxRecDepth 100000 in
set_option maxHeartbeats 6400000 in
theorem change_awake (w : World) (htab : Tab w) : Calls Tryd.prog 8 #[] w fun e w' => e = .returned (.bool true) ∧ Kept w.heap.size w.heap.size w w' := by
  have hl1 := fun x => less_calls10 Cm.exA Cm.exB Cm.exA_ok Cm.exB_ok x
  rw [Cm.less_ab] at hl1
  have hl2 := fun x => less_calls10 Cm.exB Cm.exA Cm.exB_ok Cm.exA_ok x
  rw [Cm.less_ba] at hl2
  have hsi := fun (x : World) (k : Kept w.heap.size w.heap.size w x) => sign_ok10 Cm.exA Cm.exA_ok Cm.k1 rfl Cm.exA_right x (htab.onto k)
  have hve := fun x => verify_calls10 Cm.k1 rfl x
  have hch := fun (x : World) (k : Kept w.heap.size w.heap.size w x) => check_calls10 (Cm.signed Cm.exA (Pm.ver Cm.k1)) (Cm.signed_ok Cm.exA_ok _) (Pm.ver Cm.k1) (Pm.ver_length _) x (htab.onto k)
  rw [Cm.checks_signed Cm.exA_right] at hch
  have hrb := fun x => right_calls10 Cm.exB Cm.exB_ok x
  rw [Cm.exB_right] at hrb
  have hrz := fun x => right_calls10 Cm.zero Cm.zero_ok x
  rw [Cm.zero_right] at hrz
  have hbA := build_chA
  have hgA := build_cgA
  have hbB := build_chB
  have hgB := build_cgB
  have hbK := build_k1
  have hb0 := build_cg0
  have ha0 := alloc_cg
  have hk0 := alloc_hash10
  have hiA := cgInfo (Cg.size Cm.exA_ok)
  have hzA : Cm.zero.cells.toArray.size = Cm.exA.cells.toArray.size := by rw [Cg.size Cm.zero_ok, Cg.size Cm.exA_ok]
  have haA := Cm.exA.all
  have hiB := cgInfo (Cg.size Cm.exB_ok)
  have hzB : Cm.zero.cells.toArray.size = Cm.exB.cells.toArray.size := by rw [Cg.size Cm.zero_ok, Cg.size Cm.exB_ok]
  have haB := Cm.exB.all
  have hiK : (Tryd.prog.info? 23).map (·.size) = some (bcells Cm.k1).toArray.size := by have := hashInfo10 (l := Cm.k1) rfl; simpa using this
  have hzK : zeros32.size = (bcells Cm.k1).toArray.size := by rw [zeros32_size, List.size_toArray, bcells_length]; rfl
  have haK := bcells_all Cm.k1
  have hlA := fun (x : World) (b : Nat) (h : x.heap[b]? = some (.cells Cm.exA.cells.toArray 27 (0, 0))) => load_cg h Cm.exA_ok
  have hlB := fun (x : World) (b : Nat) (h : x.heap[b]? = some (.cells Cm.exB.cells.toArray 27 (0, 0))) => load_cg h Cm.exB_ok
  have hlK := fun (x : World) (b : Nat) (h : x.heap[b]? = some (.cells (bcells Cm.k1).toArray 23 (0, 0))) => load_row_hash (l := Cm.k1) rfl h
  generalize (Cm.signed Cm.exA (Pm.ver Cm.k1)).cells.toArray = SA at hsi hch
  generalize (bcells (Pm.ver Cm.k1)).toArray = VK at hve hch
  generalize Cm.exA.cells.toArray = DA at hl1 hl2 hsi hgA hiA hzA haA hlA
  generalize Cm.exB.cells.toArray = DB at hl1 hl2 hrb hgB hiB hzB haB hlB
  generalize (bcells Cm.k1).toArray = kc at hsi hve hbK hiK hzK haK hlK
  generalize Cm.exA.chg.toArray = CA at hbA hgA
  generalize Cm.exB.chg.toArray = CB at hbB hgB
  generalize Cm.zero.cells.toArray = DZ at hrz hb0 ha0 hzA hzB
  have HL1 := Lib.hid hl1
  have HL2 := Lib.hid hl2
  have HSI := Lib.hid hsi
  have HVE := Lib.hid hve
  have HCH := Lib.hid hch
  have HRB := Lib.hid hrb
  have HRZ := Lib.hid hrz
  have HBA := Lib.hid hbA
  have HGA := Lib.hid hgA
  have HBB := Lib.hid hbB
  have HGB := Lib.hid hgB
  have HBK := Lib.hid hbK
  have HB0 := Lib.hid hb0
  have HA0 := Lib.hid ha0
  have HK0 := Lib.hid hk0
  have HIA := Lib.hid hiA
  have HZA := Lib.hid hzA
  have HAA := Lib.hid haA
  have HIB := Lib.hid hiB
  have HZB := Lib.hid hzB
  have HAB := Lib.hid haB
  have HIK := Lib.hid hiK
  have HZK := Lib.hid hzK
  have HAK := Lib.hid haK
  have HLA := Lib.hid hlA
  have HLB := Lib.hid hlB
  have HLK := Lib.hid hlK
  clear hl1 hl2 hsi hve hch hrb hrz hbA hgA hbB hgB hbK hb0 ha0 hk0 hiA hzA haA hiB hzB haB hiK hzK haK hlA hlB hlK htab
  go_enter Tryd.func8, Tryd.ntmps8
  go_upto_region 1 with fail
  refine wp_region_lit ?_
  refine @wpL_build2 _ _ _ _ _ _ _ ?hw76001 25 _ _ _ _ rfl (.int .i64 2) (.int .i64 3) rfl rfl _ (HBA.out _) ?_
  case hw76001 => kernel_rfl
  simp only [Act.put, List.setIfInBounds_toArray, List.set_cons_zero, List.set_cons_succ]
  refine @wpL_build3 _ _ _ _ _ _ _ ?hw76002 27 _ _ _ _ _ _ rfl (.int .i64 3) (.int .i64 1) (.agg CA) rfl rfl rfl _ (HGA.out _) ?_
  case hw76002 => kernel_rfl
  simp only [Act.put, List.setIfInBounds_toArray, List.set_cons_zero, List.set_cons_succ]
  refine @wpL_alloc _ _ _ _ _ _ _ _ ?hw76003 27 rfl _ (HA0.out _) ?_
  case hw76003 => kernel_rfl
  simp only [Act.put, List.setIfInBounds_toArray, List.set_cons_zero, List.set_cons_succ]
  refine wpList_store_row rfl 27 _ _ rfl (w.heap.size) DA rfl rfl 27 DZ (heap_new _ _) (HIA.out) (HZA.out) (HAA.out) ?_
  simp only [Act.put]
  rw [World.setRow_alloc_new]
  have knw1 : Kept w.heap.size w.heap.size w (w.alloc (.cells DA 27)) := (Kept.refl _ _ _).alloc (Nat.le_refl _) _
  have rnw1 := heap_new w (.cells DA 27)
  have Kw1 := knw1
  generalize w.alloc (.cells DA 27) = w1 at knw1 rnw1 Kw1  ⊢
  obtain ⟨ba, hba⟩ : ∃ n, n = w.heap.size := ⟨_, rfl⟩
  rw [← hba] at rnw1
  (try rw [← hba])
  clear hba knw1
  have rba := rnw1
  clear rnw1
  go_upto_region 2 with fail
  refine wp_region_lit ?_
  refine @wpL_build2 _ _ _ _ _ _ _ ?hw76004 25 _ _ _ _ rfl (.int .i64 3) (.int .i64 2) rfl rfl _ (HBB.out _) ?_
  case hw76004 => kernel_rfl
  simp only [Act.put, List.setIfInBounds_toArray, List.set_cons_zero, List.set_cons_succ]
  refine @wpL_build3 _ _ _ _ _ _ _ ?hw76005 27 _ _ _ _ _ _ rfl (.int .i64 3) (.int .i64 2) (.agg CB) rfl rfl rfl _ (HGB.out _) ?_
  case hw76005 => kernel_rfl
  simp only [Act.put, List.setIfInBounds_toArray, List.set_cons_zero, List.set_cons_succ]
  refine @wpL_alloc _ _ _ _ _ _ _ _ ?hw76006 27 rfl _ (HA0.out _) ?_
  case hw76006 => kernel_rfl
  simp only [Act.put, List.setIfInBounds_toArray, List.set_cons_zero, List.set_cons_succ]
  refine wpList_store_row rfl 27 _ _ rfl (w1.heap.size) DB rfl rfl 27 DZ (heap_new _ _) (HIB.out) (HZB.out) (HAB.out) ?_
  simp only [Act.put]
  rw [World.setRow_alloc_new]
  have knw2 : Kept w1.heap.size w1.heap.size w1 (w1.alloc (.cells DB 27)) := (Kept.refl _ _ _).alloc (Nat.le_refl _) _
  have rnw2 := heap_new w1 (.cells DB 27)
  have rbaw2 := row_kept rba knw2
  have Kw2 := Kw1.onto knw2
  generalize w1.alloc (.cells DB 27) = w2 at knw2 rnw2 Kw2 rbaw2 ⊢
  obtain ⟨bb, hbb⟩ : ∃ n, n = w1.heap.size := ⟨_, rfl⟩
  rw [← hbb] at rnw2
  (try rw [← hbb])
  clear hbb knw2
  clear rba
  have rba := rbaw2
  clear rbaw2
  have rbb := rnw2
  clear rnw2
  go_upto_region 3 with fail
  refine wp_region_lit ?_
  refine @wpL_build1 _ _ _ _ _ _ _ ?hw76007 23 _ _ rfl (.int .u8 1) rfl _ (HBK.out _) ?_
  case hw76007 => kernel_rfl
  simp only [Act.put, List.setIfInBounds_toArray, List.set_cons_zero, List.set_cons_succ]
  refine @wpL_alloc _ _ _ _ _ _ _ _ ?hw76008 23 rfl _ (HK0.out _) ?_
  case hw76008 => kernel_rfl
  simp only [Act.put, List.setIfInBounds_toArray, List.set_cons_zero, List.set_cons_succ]
  refine wpList_store_row rfl 23 _ _ rfl (w2.heap.size) kc rfl rfl 23 zeros32 (heap_new _ _) (HIK.out) (HZK.out) (HAK.out) ?_
  simp only [Act.put]
  rw [World.setRow_alloc_new]
  have knw3 : Kept w2.heap.size w2.heap.size w2 (w2.alloc (.cells kc 23)) := (Kept.refl _ _ _).alloc (Nat.le_refl _) _
  have rnw3 := heap_new w2 (.cells kc 23)
  have rbaw3 := row_kept rba knw3
  have rbbw3 := row_kept rbb knw3
  have Kw3 := Kw2.onto knw3
  generalize w2.alloc (.cells kc 23) = w3 at knw3 rnw3 Kw3 rbaw3 rbbw3 ⊢
  obtain ⟨bk, hbk⟩ : ∃ n, n = w2.heap.size := ⟨_, rfl⟩
  rw [← hbk] at rnw3
  (try rw [← hbk])
  clear hbk knw3
  clear rba
  have rba := rbaw3
  clear rbaw3
  clear rbb
  have rbb := rbbw3
  clear rbbw3
  have rbk := rnw3
  clear rnw3
  have LA := Lib.hid (fun (x : World) (k : Kept w3.heap.size w3.heap.size w3 x) => HLA.out x ba (row_kept rba k))
  have LB := Lib.hid (fun (x : World) (k : Kept w3.heap.size w3.heap.size w3 x) => HLB.out x bb (row_kept rbb k))
  have LK := Lib.hid (fun (x : World) (k : Kept w3.heap.size w3.heap.size w3 x) => HLK.out x bk (row_kept rbk k))
  have KW := Lib.hid Kw3
  have KD : Kept w3.heap.size w3.heap.size w3 w3.drew := (Kept.refl _ _ _).drew
  clear rba rbb rbk Kw3 Kw1 Kw2
  go_upto_region 4 with fail
  refine wp_region_noPanic ?_
  refine wp_region_held_drew (S := fun w' => Kept w3.heap.size w3.heap.size w3 w') (by kernel_rfl) ((Kept.refl _ _ _).drew) (fun hH => ?_)
  refine wpAnyH_take_at (i := 0) 9 (.agg DA) rfl rfl (by kernel_rfl) (by kernel_rfl) (by kernel_rfl) (fun _ _ _ h => h) (yieldsIf_load_known (by kernel_rfl) 27 _ rfl (ba) (0) rfl (.agg DA) (LA.out)) hH ?_
  simp only [List.setIfInBounds_toArray, List.set_cons_zero, List.set_cons_succ]
  refine wpAnyH_take_at (i := 1) 10 (.agg DB) rfl rfl (by kernel_rfl) (by kernel_rfl) (by kernel_rfl) (fun _ _ _ h => h) (yieldsIf_load_known (by kernel_rfl) 27 _ rfl (bb) (0) rfl (.agg DB) (LB.out)) hH ?_
  simp only [List.setIfInBounds_toArray, List.set_cons_zero, List.set_cons_succ]
  refine wpAnyH_ready (rs := [2]) (by kernel_rfl) (by simp) ?_
  refine AllReadyH.cons rfl (fun K hK => ?_) AllReadyH.nil
  rw [if_pos (by rfl)]
  go_simp
  go_wp2_with (go_at_call 11; refine (HL1.out _).mono ?_; rintro e w4 ⟨rfl, kw4⟩)
  have K4 : Kept w3.heap.size w3.heap.size w3 w4 := KD.trans (kw4.mono KD.size (fun i hi _ => Nat.ne_of_lt (Nat.lt_of_lt_of_le hi KD.size)))
  refine hK.out _ _ (K4) (fun hH => ?_)
  clear hK K
  refine wpAnyH_take_ex (i := 3) 12 rfl rfl (by kernel_rfl) (by kernel_rfl) (by kernel_rfl) (fun _ _ _ _ h => h) (by kernel_rfl) hH ?_
  apply Exists.intro
  apply And.intro
  · intro w9 _
    go_simp
    first | done | rfl
  simp only [List.setIfInBounds_toArray, List.set_cons_zero, List.set_cons_succ]
  refine wpAnyH_take_at (i := 4) 13 (.agg DB) rfl rfl (by kernel_rfl) (by kernel_rfl) (by kernel_rfl) (fun _ _ _ h => h) (yieldsIf_load_known (by kernel_rfl) 27 _ rfl (bb) (0) rfl (.agg DB) (LB.out)) hH ?_
  simp only [List.setIfInBounds_toArray, List.set_cons_zero, List.set_cons_succ]
  refine wpAnyH_take_at (i := 5) 14 (.agg DA) rfl rfl (by kernel_rfl) (by kernel_rfl) (by kernel_rfl) (fun _ _ _ h => h) (yieldsIf_load_known (by kernel_rfl) 27 _ rfl (ba) (0) rfl (.agg DA) (LA.out)) hH ?_
  simp only [List.setIfInBounds_toArray, List.set_cons_zero, List.set_cons_succ]
  refine wpAnyH_ready (rs := [6]) (by kernel_rfl) (by simp) ?_
  refine AllReadyH.cons rfl (fun K hK => ?_) AllReadyH.nil
  rw [if_pos (by rfl)]
  go_simp
  go_wp2_with (go_at_call 11; refine (HL2.out _).mono ?_; rintro e w5 ⟨rfl, kw5⟩)
  have K5 : Kept w3.heap.size w3.heap.size w3 w5 := K4.trans (kw5.mono K4.size (fun i hi _ => Nat.ne_of_lt (Nat.lt_of_lt_of_le hi K4.size)))
  refine hK.out _ _ (K5) (fun hH => ?_)
  clear hK K
  refine wpAnyH_take_ex (i := 7) 16 rfl rfl (by kernel_rfl) (by kernel_rfl) (by kernel_rfl) (fun _ _ _ _ h => h) (by kernel_rfl) hH ?_
  apply Exists.intro
  apply And.intro
  · intro w9 _
    go_simp
    first | done | rfl
  simp only [List.setIfInBounds_toArray, List.set_cons_zero, List.set_cons_succ]
  refine wpAnyH_take_ex (i := 8) 17 rfl rfl (by kernel_rfl) (by kernel_rfl) (by kernel_rfl) (fun _ _ _ _ h => h) (by kernel_rfl) hH ?_
  apply Exists.intro
  apply And.intro
  · intro w9 _
    go_simp
    first | done | rfl
  simp only [List.setIfInBounds_toArray, List.set_cons_zero, List.set_cons_succ]
  refine wpAnyH_take_ex (i := 9) 18 rfl rfl (by kernel_rfl) (by kernel_rfl) (by kernel_rfl) (fun _ _ _ _ h => h) (by kernel_rfl) hH ?_
  apply Exists.intro
  apply And.intro
  · intro w9 _
    go_simp
    first | done | rfl
  simp only [List.setIfInBounds_toArray, List.set_cons_zero, List.set_cons_succ]
  refine wpAnyH_take_at (i := 10) 19 (.agg DA) rfl rfl (by kernel_rfl) (by kernel_rfl) (by kernel_rfl) (fun _ _ _ h => h) (yieldsIf_load_known (by kernel_rfl) 27 _ rfl (ba) (0) rfl (.agg DA) (LA.out)) hH ?_
  simp only [List.setIfInBounds_toArray, List.set_cons_zero, List.set_cons_succ]
  refine wpAnyH_take_at (i := 11) 20 (.agg kc) rfl rfl (by kernel_rfl) (by kernel_rfl) (by kernel_rfl) (fun _ _ _ h => h) (yieldsIf_load_known (by kernel_rfl) 23 _ rfl (bk) (0) rfl (.agg kc) (LK.out)) hH ?_
  simp only [List.setIfInBounds_toArray, List.set_cons_zero, List.set_cons_succ]
  refine wpAnyH_take_at (i := 13) 22 (.agg kc) rfl rfl (by kernel_rfl) (by kernel_rfl) (by kernel_rfl) (fun _ _ _ h => h) (yieldsIf_load_known (by kernel_rfl) 23 _ rfl (bk) (0) rfl (.agg kc) (LK.out)) hH ?_
  simp only [List.setIfInBounds_toArray, List.set_cons_zero, List.set_cons_succ]
  refine wpAnyH_ready (rs := [12]) (by kernel_rfl) (by simp) ?_
  refine AllReadyH.cons rfl (fun K hK => ?_) AllReadyH.nil
  rw [if_pos (by rfl)]
  go_simp
  go_wp2_with (go_at_call 15; refine (HSI.out _ (KW.out.onto K5)).mono ?_; rintro e w6 ⟨rfl, kw6⟩)
  have K6 : Kept w3.heap.size w3.heap.size w3 w6 := K5.trans (kw6.mono K5.size (fun i hi _ => Nat.ne_of_lt (Nat.lt_of_lt_of_le hi K5.size)))
  refine hK.out _ _ (K6) (fun hH => ?_)
  clear hK K
  refine wpAnyH_ready (rs := [14]) (by kernel_rfl) (by simp) ?_
  refine AllReadyH.cons rfl (fun K hK => ?_) AllReadyH.nil
  rw [if_pos (by rfl)]
  go_simp
  go_wp2_with (go_at_call 20; refine (HVE.out _).mono ?_; rintro e w7 ⟨rfl, kw7⟩)
  have K7 : Kept w3.heap.size w3.heap.size w3 w7 := K6.trans (kw7.mono K6.size (fun i hi _ => Nat.ne_of_lt (Nat.lt_of_lt_of_le hi K6.size)))
  refine hK.out _ _ (K7) (fun hH => ?_)
  clear hK K
  refine wpAnyH_ready (rs := [15]) (by kernel_rfl) (by simp) ?_
  refine AllReadyH.cons rfl (fun K hK => ?_) AllReadyH.nil
  rw [if_pos (by rfl)]
  go_simp
  go_wp2_with (go_at_call 13; refine (HCH.out _ (KW.out.onto K7)).mono ?_; rintro e w8 ⟨rfl, kw8⟩)
  have K8 : Kept w3.heap.size w3.heap.size w3 w8 := K7.trans (kw8.mono K7.size (fun i hi _ => Nat.ne_of_lt (Nat.lt_of_lt_of_le hi K7.size)))
  refine hK.out _ _ (K8) (fun hH => ?_)
  clear hK K
  refine wpAnyH_take_ex (i := 16) 25 rfl rfl (by kernel_rfl) (by kernel_rfl) (by kernel_rfl) (fun _ _ _ _ h => h) (by kernel_rfl) hH ?_
  apply Exists.intro
  apply And.intro
  · intro w9 _
    go_simp
    first | done | rfl
  simp only [List.setIfInBounds_toArray, List.set_cons_zero, List.set_cons_succ]
  refine wpAnyH_take_ex (i := 17) 26 rfl rfl (by kernel_rfl) (by kernel_rfl) (by kernel_rfl) (fun _ _ _ _ h => h) (by kernel_rfl) hH ?_
  apply Exists.intro
  apply And.intro
  · intro w9 _
    go_simp
    first | done | rfl
  simp only [List.setIfInBounds_toArray, List.set_cons_zero, List.set_cons_succ]
  refine wpAnyH_take_at (i := 18) 27 (.agg DB) rfl rfl (by kernel_rfl) (by kernel_rfl) (by kernel_rfl) (fun _ _ _ h => h) (yieldsIf_load_known (by kernel_rfl) 27 _ rfl (bb) (0) rfl (.agg DB) (LB.out)) hH ?_
  simp only [List.setIfInBounds_toArray, List.set_cons_zero, List.set_cons_succ]
  refine wpAnyH_ready (rs := [19]) (by kernel_rfl) (by simp) ?_
  refine AllReadyH.cons rfl (fun K hK => ?_) AllReadyH.nil
  rw [if_pos (by rfl)]
  go_simp
  go_wp2_with (go_at_call 9; refine (HRB.out _).mono ?_; rintro e w9 ⟨rfl, kw9⟩)
  have K9 : Kept w3.heap.size w3.heap.size w3 w9 := K8.trans (kw9.mono K8.size (fun i hi _ => Nat.ne_of_lt (Nat.lt_of_lt_of_le hi K8.size)))
  refine hK.out _ _ (K9) (fun hH => ?_)
  clear hK K
  refine wpAnyH_take_ex (i := 20) 29 rfl rfl (by kernel_rfl) (by kernel_rfl) (by kernel_rfl) (fun _ _ _ _ h => h) (by kernel_rfl) hH ?_
  apply Exists.intro
  apply And.intro
  · intro w9 _
    go_simp
    first | done | rfl
  simp only [List.setIfInBounds_toArray, List.set_cons_zero, List.set_cons_succ]
  refine wpAnyH_take_ex (i := 21) 30 rfl rfl (by kernel_rfl) (by kernel_rfl) (by kernel_rfl) (fun _ _ _ _ h => h) (by kernel_rfl) hH ?_
  apply Exists.intro
  apply And.intro
  · intro w9 _
    go_simp
    first | done | rfl
  simp only [List.setIfInBounds_toArray, List.set_cons_zero, List.set_cons_succ]
  refine wpAnyH_take_at (i := 22) 31 (.agg DZ) rfl rfl (by kernel_rfl) (by kernel_rfl) (by kernel_rfl) (fun _ _ _ h => h) (yieldsIf_build0 (by kernel_rfl) _ rfl _ HB0.out) hH ?_
  simp only [List.setIfInBounds_toArray, List.set_cons_zero, List.set_cons_succ]
  refine wpAnyH_ready (rs := [23]) (by kernel_rfl) (by simp) ?_
  refine AllReadyH.cons rfl (fun K hK => ?_) AllReadyH.nil
  rw [if_pos (by rfl)]
  go_simp
  go_wp2_with (go_at_call 9; refine (HRZ.out _).mono ?_; rintro e wz ⟨rfl, kwz⟩)
  have Kz : Kept w3.heap.size w3.heap.size w3 wz := K9.trans (kwz.mono K9.size (fun i hi _ => Nat.ne_of_lt (Nat.lt_of_lt_of_le hi K9.size)))
  refine hK.out _ _ (Kz) (fun hH => ?_)
  clear hK K
  refine wpAnyH_take_ex (i := 24) 33 rfl rfl (by kernel_rfl) (by kernel_rfl) (by kernel_rfl) (fun _ _ _ _ h => h) (by kernel_rfl) hH ?_
  apply Exists.intro
  apply And.intro
  · intro w9 _
    go_simp
    first | done | rfl
  simp only [List.setIfInBounds_toArray, List.set_cons_zero, List.set_cons_succ]
  refine wpAnyH_take_ex (i := 25) 34 rfl rfl (by kernel_rfl) (by kernel_rfl) (by kernel_rfl) (fun _ _ _ _ h => h) (by kernel_rfl) hH ?_
  apply Exists.intro
  apply And.intro
  · intro w9 _
    go_simp
    first | done | rfl
  simp only [List.setIfInBounds_toArray, List.set_cons_zero, List.set_cons_succ]
  refine wpAnyH_take_ex (i := 26) 0 rfl rfl (by kernel_rfl) (by kernel_rfl) (by kernel_rfl) (fun _ _ _ _ h => h) (by kernel_rfl) hH ?_
  apply Exists.intro
  apply And.intro
  · intro w9 _
    go_simp
    first | done | rfl
  simp only [List.setIfInBounds_toArray, List.set_cons_zero]
  refine wpAnyH_done (by kernel_rfl) ?_ _
  refine NoPanic.normal ?_
  go_wp2
  go_ret
  exact ⟨rfl, KW.out.onto Kz⟩


end Go.Proofs.YtcjcomeakkjiiaaDoor
