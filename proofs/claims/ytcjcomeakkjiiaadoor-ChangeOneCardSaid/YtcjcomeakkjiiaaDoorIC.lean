/-
  Pu; ChgText; ChgRefText: several texts in one.
-/
import Derived.Test.YtcjcomeakkjiiaaDoorGV
import Derived.Test.YtcjcomeakkjiiaaDoorChgRight

namespace Go.Proofs.YtcjcomeakkjiiaaDoor
open Go.RowKit

/-- A writer that is being written, since w0. -/
structure Pu (w0 : World) (base b : Nat) (s : List UInt8) (w : World) : Prop where
  wr : Wr w base b (some s)
  tab : Tab w
  kp : Kept base b w0 w
  fr : Fr b w0 w
  pos : 0 < b
section
variable {w0 w w1 : World} {base b : Nat} {s : List UInt8}
theorem Pu.start (h : Wr w base b (some s)) (ht : Tab w) (hb : 0 < b) : Pu w base b s w := ⟨h, ht, Kept.refl _ _ _, Fr.refl _ _, hb⟩
theorem Pu.kept (h : Pu w0 base b s w) (k : Kept w.heap.size w.heap.size w w1) : Pu w0 base b s w1 := by
  have hlt := h.wr.lt
  have hle := h.wr.le
  refine ⟨h.wr.same k.size (k.block b (by omega) (by omega)) (fun i _ hi => k.block i hi (by omega)), h.tab.same (k.block 0 h.tab.lt (Nat.ne_of_lt h.tab.lt)), h.kp.trans (k.mono hle (fun i hi _ => by omega)), fun i o h1 h2 h3 => ?_, h.pos⟩
  have h4 := h.fr i o h1 h2 h3
  exact (k.block i (lt_of_block h4) (Nat.ne_of_lt (lt_of_block h4))).trans h4
theorem Pu.box (h : Pu w0 base b s w) {lb : Nat} {cs : Array Value} {t : TypeId} (hb : w0.heap[lb]? = some (.cells cs t (0, 0))) (hne : lb ≠ b) (ht : t ≠ 5) : w.heap[lb]? = some (.cells cs t (0, 0)) :=
  h.fr lb _ hb hne (fun _ _ e => by injection e with _ e2; exact ht e2)
theorem wrv_of (h : Wr w base b (some s)) : WrV w base b (.pointer (some ⟨b, 0, none⟩)) (some s) := .inr ⟨rfl, h⟩
theorem wr_of {st : Option (List UInt8)} (h : WrV w base b (.pointer (some ⟨b, 0, none⟩)) st) : Wr w base b st := by
  rcases h with ⟨h1, _⟩ | ⟨_, h2⟩
  · cases h1
  · exact h2
theorem Pu.next (h : Pu w0 base b s w) {s1 : List UInt8} (h1 : Wr w1 base b (some s1)) (k : Kept base b w w1) (f : Fr b w w1) : Pu w0 base b s1 w1 :=
  ⟨h1, h.tab.kept k (Nat.lt_of_lt_of_le h.pos (Nat.le_of_lt h.wr.lt)) h.pos, h.kp.trans k, h.fr.trans f, h.pos⟩
theorem short_of (hs : s.length ≤ 100000) : Short (some s) 800000000 := fun l hl => by
  cases hl
  exact Nat.le_trans hs (by decide)
theorem Pu.num (h : Pu w0 base b s w) (n : Nat) (hn : n ≤ 100000) (hs : s.length ≤ 100000) : Calls Tryd.prog 46 #[.pointer (some ⟨b, 0, none⟩), .int .i64 (n : Int)] w fun e w' => e = .returned (.tuple #[]) ∧ Pu w0 base b (s ++ Wm.enc n) w' := by
  refine (wnum_f base b _ (some s) (n : Int) w (wrv_of h.wr) h.tab (short_of hs)).mono ?_
  rintro e w' ⟨rfl, h1, k, f⟩
  rw [pNum, if_pos (by omega), Int.toNat_natCast] at h1
  exact ⟨rfl, h.next (wr_of h1) k f⟩
theorem Pu.numL (h : Pu w0 base b s w) (n : Nat) (hn : n ≤ 4611686018427387903) (hs : s.length ≤ 100000) : Calls Tryd.prog 46 #[.pointer (some ⟨b, 0, none⟩), .int .i64 (n : Int)] w fun e w' => e = .returned (.tuple #[]) ∧ Pu w0 base b (s ++ Wm.enc n) w' := by
  refine (wnum_f base b _ (some s) (n : Int) w (wrv_of h.wr) h.tab (short_of hs)).mono ?_
  rintro e w' ⟨rfl, h1, k, f⟩
  rw [pNum, if_pos (by omega), Int.toNat_natCast] at h1
  exact ⟨rfl, h.next (wr_of h1) k f⟩
theorem Pu.hash (h : Pu w0 base b s w) (x : List UInt8) (hx : x.length = 32) (hs : s.length ≤ 100000) : Calls Tryd.prog 45 #[.pointer (some ⟨b, 0, none⟩), .agg (bcells x).toArray] w fun e w' => e = .returned (.tuple #[]) ∧ Pu w0 base b (s ++ x) w' := by
  refine (whash_f base b _ (some s) x hx w (wrv_of h.wr) (short_of hs)).mono ?_
  rintro e w' ⟨rfl, h1, k, f⟩
  exact ⟨rfl, h.next (wr_of h1) k f⟩
end

end Go.Proofs.YtcjcomeakkjiiaaDoor

namespace Go.Proofs.YtcjcomeakkjiiaaDoor
open Go.RowKit Go.Lib

set_option maxRecDepth 100000 in
set_option maxHeartbeats 6400000 in
theorem textof_calls (p : Cg) (hp : p.Ok) (hr : Cm.right p = true) (w : World) (htab : Tab w) : Calls Tryd.prog 28 #[.agg p.cells.toArray] w fun e w' => e = .returned (.string (str (Cm.text p))) ∧ Kept w.heap.size w.heap.size w w' := by
  obtain ⟨⟨d0, d1, q0, q1⟩, ⟨⟨a0, a1⟩, n0, n1⟩, hk⟩ := Cm.right_iff.1 hr
  obtain ⟨k0, k3⟩ := Cm.kind_le hk
  obtain ⟨dn, hdn⟩ : ∃ dn : Nat, p.depth = (dn : Int) := ⟨p.depth.toNat, by omega⟩
  obtain ⟨an, han⟩ : ∃ an : Nat, p.author = (an : Int) := ⟨p.author.toNat, by omega⟩
  obtain ⟨sn, hsn⟩ : ∃ sn : Nat, p.seq = (sn : Int) := ⟨p.seq.toNat, by omega⟩
  obtain ⟨kn, hkn⟩ : ∃ kn : Nat, p.kind = (kn : Int) := ⟨p.kind.toNat, by omega⟩
  obtain ⟨nn, hnn⟩ : ∃ nn : Nat, p.name = (nn : Int) := ⟨p.name.toNat, by omega⟩
  have bd : dn ≤ 4611686018427387903 := by omega
  have ba : an ≤ 4611686018427387903 := by omega
  have bs : sn ≤ 4611686018427387903 := by omega
  have bk : kn ≤ 4611686018427387903 := by omega
  have bn : nn ≤ 4611686018427387903 := by omega
  have HTX : Hid (Cm.text p = p.epoch ++ (Wm.enc dn ++ (Wm.enc an ++ (Wm.enc sn ++ (Wm.enc kn ++ (Wm.enc nn ++ p.pub)))))) := Lib.hid (by rw [Cm.text, hdn, han, hsn, hkn, hnn]; rfl)
  obtain ⟨s1, h1⟩ : ∃ s1, s1 = p.epoch := ⟨_, rfl⟩
  obtain ⟨s2, h2⟩ : ∃ s2, s2 = s1 ++ Wm.enc dn := ⟨_, rfl⟩
  obtain ⟨s3, h3⟩ : ∃ s3, s3 = s2 ++ Wm.enc an := ⟨_, rfl⟩
  obtain ⟨s4, h4⟩ : ∃ s4, s4 = s3 ++ Wm.enc sn := ⟨_, rfl⟩
  obtain ⟨s5, h5⟩ : ∃ s5, s5 = s4 ++ Wm.enc kn := ⟨_, rfl⟩
  obtain ⟨s6, h6⟩ : ∃ s6, s6 = s5 ++ Wm.enc nn := ⟨_, rfl⟩
  obtain ⟨s7, h7⟩ : ∃ s7, s7 = s6 ++ p.pub := ⟨_, rfl⟩
  have HFIN : Hid (Cm.text p = s7) := Lib.hid (by rw [HTX.out, h7, h6, h5, h4, h3, h2, h1]; simp only [List.append_assoc])
  have l1 : s1.length = 32 := by rw [h1]; exact hp.1
  have e2 := Wm.enc_length_le dn
  have e3 := Wm.enc_length_le an
  have e4 := Wm.enc_length_le sn
  have e5 := Wm.enc_length_le kn
  have e6 := Wm.enc_length_le nn
  have l2 : s2.length ≤ 1000 := by rw [h2, List.length_append]; omega
  have l2' : s2.length ≤ 40 := by rw [h2, List.length_append]; omega
  have l3' : s3.length ≤ 48 := by rw [h3, List.length_append]; omega
  have l4' : s4.length ≤ 56 := by rw [h4, List.length_append]; omega
  have l5' : s5.length ≤ 64 := by rw [h5, List.length_append]; omega
  have l6' : s6.length ≤ 72 := by rw [h6, List.length_append]; omega
  have HL1 := Lib.hid (show s1.length ≤ 100000 by omega)
  have HL2 := Lib.hid (show s2.length ≤ 100000 by omega)
  have HL3 := Lib.hid (show s3.length ≤ 100000 by omega)
  have HL4 := Lib.hid (show s4.length ≤ 100000 by omega)
  have HL5 := Lib.hid (show s5.length ≤ 100000 by omega)
  have HL6 := Lib.hid (show s6.length ≤ 100000 by omega)
  have HB := Lib.hid (And.intro bd (And.intro ba (And.intro bs (And.intro bk bn))))
  have H1 := Lib.hid h1
  have H2 := Lib.hid h2
  have H3 := Lib.hid h3
  have H4 := Lib.hid h4
  have H5 := Lib.hid h5
  have H6 := Lib.hid h6
  have H7 := Lib.hid h7
  have HE := Lib.hid hp.1
  have HP := Lib.hid hp.2.1
  have R0 := heap_new w (.cells p.cells.toArray 27)
  have k0' : Kept w.heap.size w.heap.size w (w.alloc (.cells p.cells.toArray 27)) := (Kept.refl _ _ _).alloc (Nat.le_refl _) _
  have hca : ∀ (x : World) (b : Nat), x.heap[b]? = some (.cells p.cells.toArray 27 (0, 0)) → (x.cell? ⟨b, 32, none⟩ = some (.int .i64 (dn : Int)) ∧ x.cell? ⟨b, 33, none⟩ = some (.int .i64 (an : Int)) ∧ x.cell? ⟨b, 34, none⟩ = some (.int .i64 (sn : Int)) ∧ x.cell? ⟨b, 35, none⟩ = some (.int .i64 (kn : Int)) ∧ x.cell? ⟨b, 36, none⟩ = some (.int .i64 (nn : Int))) ∧ (loadVar 23 ⟨b, 0, none⟩).run Tryd.prog x = .ok (.agg (bcells p.epoch).toArray) x ∧ (loadVar 23 ⟨b, 37, none⟩).run Tryd.prog x = .ok (.agg (bcells p.pub).toArray) x := fun x b h => ⟨⟨hdn ▸ cg_depth h hp, han ▸ cg_author h hp, hsn ▸ cg_seq h hp, hkn ▸ chg_kind (cg_chg h hp), hnn ▸ chg_name (cg_chg h hp)⟩, load_hash (cg_epoch h) hp.1, load_hash (chg_pub (cg_chg h hp)) hp.2.1⟩
  have HCA := Lib.hid hca
  obtain ⟨D, hD⟩ : ∃ D, D = p.cells.toArray := ⟨_, rfl⟩
  rw [← hD] at R0 k0' HCA ⊢
  clear hca hD d0 d1 q0 q1 a0 a1 n0 n1 hk k0 k3 hdn han hsn hkn hnn bd ba bs bk bn h1 h2 h3 h4 h5 h6 h7 l1 l2 l2' l3' l4' l5' l6' e2 e3 e4 e5 e6 hr hp HTX
  have hw0 := htab.lt
  go_enter Tryd.func28, Tryd.ntmps28
  go_upto_region 1 with fail
  generalize w.alloc (.cells D 27) = w2 at R0 k0' ⊢
  obtain ⟨pb, hpb⟩ : ∃ pb, pb = w.heap.size := ⟨_, rfl⟩
  have HPB := Lib.hid (show w.heap.size ≤ pb by omega)
  rw [← hpb] at R0
  (try rw [← hpb])
  have K2 := Lib.hid k0'
  have R2 := Lib.hid R0
  have HTAB := Lib.hid (htab.kept K2.out hw0 hw0)
  have HWS := Lib.hid K2.out.size
  clear hpb R0 k0'
  refine wp_region_lit ?_
  refine @BigFrame.wpList_want _ _ _ _ _ _ _ ?hw73001 ?_
  case hw73001 => kernel_rfl
  intro K hK
  go_simp
  go_at_call 44
  refine (new_calls w2).mono ?_
  rintro e w3 ⟨rfl, wr3, k3, s3⟩
  refine hK _ _ ?_
  clear hK K
  obtain ⟨wb, hwb⟩ : ∃ wb, wb = w2.heap.size := ⟨_, rfl⟩
  have hpos : 0 < w2.heap.size := HTAB.out.lt
  have tab3 := HTAB.out.kept k3 hpos hpos
  have U3 := Lib.hid (Pu.start (base := w2.heap.size + 1) (b := w2.heap.size) (s := []) wr3 tab3 hpos)
  have K3 := Lib.hid (K2.out.onto k3)
  have R3 := Lib.hid ((k3.block pb (lt_of_block R2.out) (Nat.ne_of_lt (lt_of_block R2.out))).trans R2.out)
  obtain ⟨base, hbase⟩ : ∃ base, base = w2.heap.size + 1 := ⟨_, rfl⟩
  have HBT := Lib.hid (show pb < base ∧ pb ≠ wb by have := lt_of_block R2.out; omega)
  have HBW := Lib.hid (show ∀ g, g < w.heap.size → g < base ∧ g ≠ wb from fun g hg => by have := HWS.out; omega)
  rw [← hwb] at U3 hbase
  rw [← hbase] at U3
  rw [← hwb]
  have HTT := Lib.hid (fun (t : List UInt8) (x : World) (u : Pu w3 base wb t x) => HCA.out x pb ((u.kp.block pb HBT.out.1 HBT.out.2).trans R3.out))
  have HKW := Lib.hid (fun (t : List UInt8) (x : World) (u : Pu w3 base wb t x) => (show Kept w.heap.size w.heap.size w x from K3.out.trans (u.kp.mono (by have := HBT.out; have := HPB.out; omega) (fun i hi _ => (HBW.out i hi).2))))
  clear wr3 k3 s3 tab3 hwb hbase R2 K2 HTAB hpos htab hw0
  refine @BigFrame.wpList_want _ _ _ _ _ _ _ ?hw73002 ?_
  case hw73002 => kernel_rfl
  intro K hK
  go_simp
  refine hK _ _ ?_
  clear hK K
  go_upto_region 2 with fail
  refine wp_region_lit ?_
  refine @BigFrame.wpList_want _ _ _ _ _ _ _ ?hw73004 ?_
  case hw73004 => kernel_rfl
  intro K hK
  go_simp
  refine hK _ _ ?_
  clear hK K
  refine @BigFrame.wpList_want _ _ _ _ _ _ _ ?hw73005 ?_
  case hw73005 => kernel_rfl
  intro K hK
  go_simp
  refine hK _ _ ?_
  clear hK K
  refine @wpList_load_known _ _ _ _ _ _ _ ?hw73006 23 (.tmp 8) rfl (pb) (0) rfl (.agg (bcells p.epoch).toArray) ((HTT.out _ _ U3.out).2.1) ?_
  case hw73006 => kernel_rfl
  simp only [Act.put, List.setIfInBounds_toArray, List.set_cons_zero, List.set_cons_succ]
  refine @BigFrame.wpList_want _ _ _ _ _ _ _ ?hw73003 ?_
  case hw73003 => kernel_rfl
  intro K hK
  go_simp
  go_at_call 45
  refine (U3.out.hash p.epoch HE.out (Nat.zero_le _)).mono ?_
  rintro e w4 ⟨rfl, u4⟩
  have U4 : Hid (Pu w3 base wb s1 w4) := Lib.hid (by rw [H1.out]; exact u4)
  clear u4
  refine hK _ _ ?_
  clear hK K
  go_upto_region 3 with fail
  refine wp_region_lit ?_
  refine @BigFrame.wpList_want _ _ _ _ _ _ _ ?hw73008 ?_
  case hw73008 => kernel_rfl
  intro K hK
  go_simp
  refine hK _ _ ?_
  clear hK K
  refine @BigFrame.wpList_want _ _ _ _ _ _ _ ?hw73009 ?_
  case hw73009 => kernel_rfl
  intro K hK
  go_simp
  refine hK _ _ ?_
  clear hK K
  refine @wpList_load_known _ _ _ _ _ _ _ ?hw73010 3 (.tmp 12) rfl (pb) (32) rfl (.int .i64 (dn : Int)) (load_int10 ((HTT.out _ _ U4.out).1.1)) ?_
  case hw73010 => kernel_rfl
  simp only [Act.put, List.setIfInBounds_toArray, List.set_cons_zero, List.set_cons_succ]
  refine @BigFrame.wpList_want _ _ _ _ _ _ _ ?hw73007 ?_
  case hw73007 => kernel_rfl
  intro K hK
  go_simp
  go_at_call 46
  refine (U4.out.numL dn HB.out.1 HL1.out).mono ?_
  rintro e w5 ⟨rfl, u5⟩
  have U5 : Hid (Pu w3 base wb s2 w5) := Lib.hid (by rw [H2.out]; exact u5)
  clear u5
  refine hK _ _ ?_
  clear hK K
  go_upto_region 4 with fail
  refine wp_region_lit ?_
  refine @BigFrame.wpList_want _ _ _ _ _ _ _ ?hw73012 ?_
  case hw73012 => kernel_rfl
  intro K hK
  go_simp
  refine hK _ _ ?_
  clear hK K
  refine @BigFrame.wpList_want _ _ _ _ _ _ _ ?hw73013 ?_
  case hw73013 => kernel_rfl
  intro K hK
  go_simp
  refine hK _ _ ?_
  clear hK K
  refine @wpList_load_known _ _ _ _ _ _ _ ?hw73014 3 (.tmp 16) rfl (pb) (33) rfl (.int .i64 (an : Int)) (load_int10 ((HTT.out _ _ U5.out).1.2.1)) ?_
  case hw73014 => kernel_rfl
  simp only [Act.put, List.setIfInBounds_toArray, List.set_cons_zero, List.set_cons_succ]
  refine @BigFrame.wpList_want _ _ _ _ _ _ _ ?hw73011 ?_
  case hw73011 => kernel_rfl
  intro K hK
  go_simp
  go_at_call 46
  refine (U5.out.numL an HB.out.2.1 HL2.out).mono ?_
  rintro e w6 ⟨rfl, u6⟩
  have U6 : Hid (Pu w3 base wb s3 w6) := Lib.hid (by rw [H3.out]; exact u6)
  clear u6
  refine hK _ _ ?_
  clear hK K
  go_upto_region 5 with fail
  refine wp_region_lit ?_
  refine @BigFrame.wpList_want _ _ _ _ _ _ _ ?hw73016 ?_
  case hw73016 => kernel_rfl
  intro K hK
  go_simp
  refine hK _ _ ?_
  clear hK K
  refine @BigFrame.wpList_want _ _ _ _ _ _ _ ?hw73017 ?_
  case hw73017 => kernel_rfl
  intro K hK
  go_simp
  refine hK _ _ ?_
  clear hK K
  refine @wpList_load_known _ _ _ _ _ _ _ ?hw73018 3 (.tmp 20) rfl (pb) (34) rfl (.int .i64 (sn : Int)) (load_int10 ((HTT.out _ _ U6.out).1.2.2.1)) ?_
  case hw73018 => kernel_rfl
  simp only [Act.put, List.setIfInBounds_toArray, List.set_cons_zero, List.set_cons_succ]
  refine @BigFrame.wpList_want _ _ _ _ _ _ _ ?hw73015 ?_
  case hw73015 => kernel_rfl
  intro K hK
  go_simp
  go_at_call 46
  refine (U6.out.numL sn HB.out.2.2.1 HL3.out).mono ?_
  rintro e w7 ⟨rfl, u7⟩
  have U7 : Hid (Pu w3 base wb s4 w7) := Lib.hid (by rw [H4.out]; exact u7)
  clear u7
  refine hK _ _ ?_
  clear hK K
  go_upto_region 6 with fail
  refine wp_region_lit ?_
  refine @BigFrame.wpList_want _ _ _ _ _ _ _ ?hw73020 ?_
  case hw73020 => kernel_rfl
  intro K hK
  go_simp
  refine hK _ _ ?_
  clear hK K
  refine @BigFrame.wpList_want _ _ _ _ _ _ _ ?hw73021 ?_
  case hw73021 => kernel_rfl
  intro K hK
  go_simp
  refine hK _ _ ?_
  clear hK K
  refine @BigFrame.wpList_want _ _ _ _ _ _ _ ?hw73022 ?_
  case hw73022 => kernel_rfl
  intro K hK
  go_simp
  refine hK _ _ ?_
  clear hK K
  refine @wpList_load_known _ _ _ _ _ _ _ ?hw73023 3 (.tmp 25) rfl (pb) (35) rfl (.int .i64 (kn : Int)) (load_int10 ((HTT.out _ _ U7.out).1.2.2.2.1)) ?_
  case hw73023 => kernel_rfl
  simp only [Act.put, List.setIfInBounds_toArray, List.set_cons_zero, List.set_cons_succ]
  refine @BigFrame.wpList_want _ _ _ _ _ _ _ ?hw73019 ?_
  case hw73019 => kernel_rfl
  intro K hK
  go_simp
  go_at_call 46
  refine (U7.out.numL kn HB.out.2.2.2.1 HL4.out).mono ?_
  rintro e w8 ⟨rfl, u8⟩
  have U8 : Hid (Pu w3 base wb s5 w8) := Lib.hid (by rw [H5.out]; exact u8)
  clear u8
  refine hK _ _ ?_
  clear hK K
  go_upto_region 7 with fail
  refine wp_region_lit ?_
  refine @BigFrame.wpList_want _ _ _ _ _ _ _ ?hw73025 ?_
  case hw73025 => kernel_rfl
  intro K hK
  go_simp
  refine hK _ _ ?_
  clear hK K
  refine @BigFrame.wpList_want _ _ _ _ _ _ _ ?hw73026 ?_
  case hw73026 => kernel_rfl
  intro K hK
  go_simp
  refine hK _ _ ?_
  clear hK K
  refine @BigFrame.wpList_want _ _ _ _ _ _ _ ?hw73027 ?_
  case hw73027 => kernel_rfl
  intro K hK
  go_simp
  refine hK _ _ ?_
  clear hK K
  refine @wpList_load_known _ _ _ _ _ _ _ ?hw73028 3 (.tmp 30) rfl (pb) (36) rfl (.int .i64 (nn : Int)) (load_int10 ((HTT.out _ _ U8.out).1.2.2.2.2)) ?_
  case hw73028 => kernel_rfl
  simp only [Act.put, List.setIfInBounds_toArray, List.set_cons_zero, List.set_cons_succ]
  refine @BigFrame.wpList_want _ _ _ _ _ _ _ ?hw73024 ?_
  case hw73024 => kernel_rfl
  intro K hK
  go_simp
  go_at_call 46
  refine (U8.out.numL nn HB.out.2.2.2.2 HL5.out).mono ?_
  rintro e w9 ⟨rfl, u9⟩
  have U9 : Hid (Pu w3 base wb s6 w9) := Lib.hid (by rw [H6.out]; exact u9)
  clear u9
  refine hK _ _ ?_
  clear hK K
  go_upto_region 8 with fail
  refine wp_region_lit ?_
  refine @BigFrame.wpList_want _ _ _ _ _ _ _ ?hw73030 ?_
  case hw73030 => kernel_rfl
  intro K hK
  go_simp
  refine hK _ _ ?_
  clear hK K
  refine @BigFrame.wpList_want _ _ _ _ _ _ _ ?hw73031 ?_
  case hw73031 => kernel_rfl
  intro K hK
  go_simp
  refine hK _ _ ?_
  clear hK K
  refine @BigFrame.wpList_want _ _ _ _ _ _ _ ?hw73032 ?_
  case hw73032 => kernel_rfl
  intro K hK
  go_simp
  refine hK _ _ ?_
  clear hK K
  refine @wpList_load_known _ _ _ _ _ _ _ ?hw73033 23 (.tmp 35) rfl (pb) (37) rfl (.agg (bcells p.pub).toArray) ((HTT.out _ _ U9.out).2.2) ?_
  case hw73033 => kernel_rfl
  simp only [Act.put, List.setIfInBounds_toArray, List.set_cons_zero, List.set_cons_succ]
  refine @BigFrame.wpList_want _ _ _ _ _ _ _ ?hw73029 ?_
  case hw73029 => kernel_rfl
  intro K hK
  go_simp
  go_at_call 45
  refine (U9.out.hash p.pub HP.out HL6.out).mono ?_
  rintro e w10 ⟨rfl, u10⟩
  have U10 : Hid (Pu w3 base wb s7 w10) := Lib.hid (by rw [H7.out]; exact u10)
  clear u10
  refine hK _ _ ?_
  clear hK K
  have HEN := Lib.hid (wend_ok _ _ _ _ U10.out.wr)
  go_wp2_with (go_at_call 47; refine HEN.out.mono ?_; rintro e w99 ⟨rfl, rfl⟩)
  go_ret
  rw [HFIN.out]
  exact ⟨rfl, HKW.out _ _ U10.out⟩

end Go.Proofs.YtcjcomeakkjiiaaDoor

namespace Go.Proofs.YtcjcomeakkjiiaaDoor
open Go.RowKit Go.Lib

set_option maxRecDepth 100000 in
set_option maxHeartbeats 6400000 in
theorem reftext_calls10 (p : Cg) (hp : p.Ok) (hr : Cm.right p = true) (w : World) : Calls Tryd.prog 30 #[.agg p.cells.toArray] w fun e w' => e = .returned (.string (str (Cm.text p))) ∧ Kept w.heap.size w.heap.size w w' := by
  obtain ⟨⟨d0, d1, q0, q1⟩, ⟨⟨a0, a1⟩, n0, n1⟩, hk⟩ := Cm.right_iff.1 hr
  obtain ⟨k0, k3⟩ := Cm.kind_le hk
  obtain ⟨dn, hdn⟩ : ∃ dn : Nat, p.depth = (dn : Int) := ⟨p.depth.toNat, by omega⟩
  obtain ⟨an, han⟩ : ∃ an : Nat, p.author = (an : Int) := ⟨p.author.toNat, by omega⟩
  obtain ⟨sn, hsn⟩ : ∃ sn : Nat, p.seq = (sn : Int) := ⟨p.seq.toNat, by omega⟩
  obtain ⟨kn, hkn⟩ : ∃ kn : Nat, p.kind = (kn : Int) := ⟨p.kind.toNat, by omega⟩
  obtain ⟨nn, hnn⟩ : ∃ nn : Nat, p.name = (nn : Int) := ⟨p.name.toNat, by omega⟩
  have bd : dn ≤ 4611686018427387903 := by omega
  have ba : an ≤ 4611686018427387903 := by omega
  have bs : sn ≤ 4611686018427387903 := by omega
  have bk : kn ≤ 4611686018427387903 := by omega
  have bn : nn ≤ 4611686018427387903 := by omega
  have HTX : Hid (Cm.text p = p.epoch ++ (Wm.enc dn ++ (Wm.enc an ++ (Wm.enc sn ++ (Wm.enc kn ++ (Wm.enc nn ++ p.pub)))))) := Lib.hid (by rw [Cm.text, hdn, han, hsn, hkn, hnn]; rfl)
  have HNU := Lib.hid (fun (n : Nat) (hn : n ≤ 4611686018427387903) u => refnum n u hn)
  have HND := Lib.hid (fun u => HNU.out dn bd u)
  have HNA := Lib.hid (fun u => HNU.out an ba u)
  have HNS := Lib.hid (fun u => HNU.out sn bs u)
  have HNK := Lib.hid (fun u => HNU.out kn bk u)
  have HNN := Lib.hid (fun u => HNU.out nn bn u)
  have HHE := Lib.hid (fun u => refhash p.epoch hp.1 u)
  have HHP := Lib.hid (fun u => refhash p.pub hp.2.1 u)
  obtain ⟨ta, hta⟩ : ∃ t, t = str p.epoch := ⟨_, rfl⟩
  obtain ⟨tb, htb⟩ : ∃ t, t = str (Wm.enc dn) := ⟨_, rfl⟩
  obtain ⟨tc, htc⟩ : ∃ t, t = str (Wm.enc an) := ⟨_, rfl⟩
  obtain ⟨td, htd⟩ : ∃ t, t = str (Wm.enc sn) := ⟨_, rfl⟩
  obtain ⟨te, hte⟩ : ∃ t, t = str (Wm.enc kn) := ⟨_, rfl⟩
  obtain ⟨tf, htf⟩ : ∃ t, t = str (Wm.enc nn) := ⟨_, rfl⟩
  obtain ⟨tg, htg⟩ : ∃ t, t = str p.pub := ⟨_, rfl⟩
  have HFIN : Hid (str (Cm.text p) = ta ++ tb ++ tc ++ td ++ te ++ tf ++ tg) := Lib.hid (by
    rw [HTX.out, hta, htb, htc, htd, hte, htf, htg, str_append, str_append, str_append, str_append, str_append, str_append]
    simp only [List.append_assoc])
  rw [← hta] at HHE
  rw [← htb] at HND
  rw [← htc] at HNA
  rw [← htd] at HNS
  rw [← hte] at HNK
  rw [← htf] at HNN
  rw [← htg] at HHP
  have z1 : ta.size = 32 := by rw [hta, str_size]; exact hp.1
  have z2 : tb.size ≤ 8 := by rw [htb, str_size]; exact Wm.enc_length_le _
  have z3 : tc.size ≤ 8 := by rw [htc, str_size]; exact Wm.enc_length_le _
  have z4 : td.size ≤ 8 := by rw [htd, str_size]; exact Wm.enc_length_le _
  have z5 : te.size ≤ 8 := by rw [hte, str_size]; exact Wm.enc_length_le _
  have z6 : tf.size ≤ 8 := by rw [htf, str_size]; exact Wm.enc_length_le _
  have z7 : tg.size = 32 := by rw [htg, str_size]; exact hp.2.1
  have g1 : ¬ 9223372036854775807 < ta.size + tb.size := by omega
  have g2 : ¬ 9223372036854775807 < ta.size + tb.size + tc.size := by omega
  have g3 : ¬ 9223372036854775807 < ta.size + tb.size + tc.size + td.size := by omega
  have g4 : ¬ 9223372036854775807 < ta.size + tb.size + tc.size + td.size + te.size := by omega
  have g5 : ¬ 9223372036854775807 < ta.size + tb.size + tc.size + td.size + te.size + tf.size := by omega
  have g6 : ¬ 9223372036854775807 < ta.size + tb.size + tc.size + td.size + te.size + tf.size + tg.size := by omega
  have R0 := heap_new w (.cells p.cells.toArray 27)
  have k0' : Kept w.heap.size w.heap.size w (w.alloc (.cells p.cells.toArray 27)) := (Kept.refl _ _ _).alloc (Nat.le_refl _) _
  have hca : ∀ (x : World) (b : Nat), x.heap[b]? = some (.cells p.cells.toArray 27 (0, 0)) → (x.cell? ⟨b, 32, none⟩ = some (.int .i64 (dn : Int)) ∧ x.cell? ⟨b, 33, none⟩ = some (.int .i64 (an : Int)) ∧ x.cell? ⟨b, 34, none⟩ = some (.int .i64 (sn : Int)) ∧ x.cell? ⟨b, 35, none⟩ = some (.int .i64 (kn : Int)) ∧ x.cell? ⟨b, 36, none⟩ = some (.int .i64 (nn : Int))) ∧ (loadVar 23 ⟨b, 0, none⟩).run Tryd.prog x = .ok (.agg (bcells p.epoch).toArray) x ∧ (loadVar 23 ⟨b, 37, none⟩).run Tryd.prog x = .ok (.agg (bcells p.pub).toArray) x := fun x b h => ⟨⟨hdn ▸ cg_depth h hp, han ▸ cg_author h hp, hsn ▸ cg_seq h hp, hkn ▸ chg_kind (cg_chg h hp), hnn ▸ chg_name (cg_chg h hp)⟩, load_hash (cg_epoch h) hp.1, load_hash (chg_pub (cg_chg h hp)) hp.2.1⟩
  have HCA := Lib.hid hca
  obtain ⟨D, hD⟩ : ∃ D, D = p.cells.toArray := ⟨_, rfl⟩
  rw [← hD] at R0 k0' HCA ⊢
  obtain ⟨de, hde⟩ : ∃ D, D = (bcells p.epoch).toArray := ⟨_, rfl⟩
  obtain ⟨dp, hdp⟩ : ∃ D, D = (bcells p.pub).toArray := ⟨_, rfl⟩
  rw [← hde] at HHE HCA
  rw [← hdp] at HHP HCA
  clear hca hD hde hdp d0 d1 q0 q1 a0 a1 n0 n1 hk k0 k3 hdn han hsn hkn hnn bd ba bs bk bn hr hp HTX hta htb htc htd hte htf htg z1 z2 z3 z4 z5 z6 z7 HNU
  go_enter Tryd.func30, Tryd.ntmps30
  go_upto_region 1 with fail
  generalize w.alloc (.cells D 27) = w1 at R0 k0' ⊢
  obtain ⟨pb, hpb⟩ : ∃ pb, pb = w.heap.size := ⟨_, rfl⟩
  rw [← hpb] at R0
  (try rw [← hpb])
  have K1 := Lib.hid k0'
  have HTT := Lib.hid (fun (x : World) (k : Kept w1.heap.size w1.heap.size w1 x) => HCA.out x pb (row_kept R0 k))
  have KD : Kept w1.heap.size w1.heap.size w1 w1.drew := (Kept.refl _ _ _).drew
  clear hpb R0 k0' HCA
  refine wp_region_noPanic ?_
  refine wp_region_held_drew (S := fun w' => Kept w1.heap.size w1.heap.size w1 w') (by kernel_rfl) ((Kept.refl _ _ _).drew) (fun hH => ?_)
  refine wpAnyH_take_ex (i := 0) 4 rfl rfl (by kernel_rfl) (by kernel_rfl) (by kernel_rfl) (fun _ _ _ _ h => h) (by kernel_rfl) hH ?_
  apply Exists.intro
  apply And.intro
  · intro w9 _
    go_simp
    first | done | rfl
  simp only [List.setIfInBounds_toArray, List.set_cons_zero, List.set_cons_succ]
  refine wpAnyH_take_at (i := 1) 5 (.agg de) rfl rfl (by kernel_rfl) (by kernel_rfl) (by kernel_rfl) (fun _ _ _ h => h) (yieldsIf_load_known (by kernel_rfl) 23 _ rfl (pb) (0) rfl (.agg de) (fun w' hw' => (HTT.out w' hw').2.1)) hH ?_
  simp only [List.setIfInBounds_toArray, List.set_cons_zero, List.set_cons_succ]
  refine wpAnyH_take_ex (i := 3) 7 rfl rfl (by kernel_rfl) (by kernel_rfl) (by kernel_rfl) (fun _ _ _ _ h => h) (by kernel_rfl) hH ?_
  apply Exists.intro
  apply And.intro
  · intro w9 _
    go_simp
    first | done | rfl
  simp only [List.setIfInBounds_toArray, List.set_cons_zero, List.set_cons_succ]
  refine wpAnyH_take_at (i := 4) 8 (.int .i64 (dn : Int)) rfl rfl (by kernel_rfl) (by kernel_rfl) (by kernel_rfl) (fun _ _ _ h => h) (yieldsIf_load_known (by kernel_rfl) 3 _ rfl (pb) (32) rfl (.int .i64 (dn : Int)) (fun w' hw' => load_int10 ((HTT.out w' hw').1.1))) hH ?_
  simp only [List.setIfInBounds_toArray, List.set_cons_zero, List.set_cons_succ]
  refine wpAnyH_take_ex (i := 7) 11 rfl rfl (by kernel_rfl) (by kernel_rfl) (by kernel_rfl) (fun _ _ _ _ h => h) (by kernel_rfl) hH ?_
  apply Exists.intro
  apply And.intro
  · intro w9 _
    go_simp
    first | done | rfl
  simp only [List.setIfInBounds_toArray, List.set_cons_zero, List.set_cons_succ]
  refine wpAnyH_take_at (i := 8) 12 (.int .i64 (an : Int)) rfl rfl (by kernel_rfl) (by kernel_rfl) (by kernel_rfl) (fun _ _ _ h => h) (yieldsIf_load_known (by kernel_rfl) 3 _ rfl (pb) (33) rfl (.int .i64 (an : Int)) (fun w' hw' => load_int10 ((HTT.out w' hw').1.2.1))) hH ?_
  simp only [List.setIfInBounds_toArray, List.set_cons_zero, List.set_cons_succ]
  refine wpAnyH_take_ex (i := 11) 15 rfl rfl (by kernel_rfl) (by kernel_rfl) (by kernel_rfl) (fun _ _ _ _ h => h) (by kernel_rfl) hH ?_
  apply Exists.intro
  apply And.intro
  · intro w9 _
    go_simp
    first | done | rfl
  simp only [List.setIfInBounds_toArray, List.set_cons_zero, List.set_cons_succ]
  refine wpAnyH_take_at (i := 12) 16 (.int .i64 (sn : Int)) rfl rfl (by kernel_rfl) (by kernel_rfl) (by kernel_rfl) (fun _ _ _ h => h) (yieldsIf_load_known (by kernel_rfl) 3 _ rfl (pb) (34) rfl (.int .i64 (sn : Int)) (fun w' hw' => load_int10 ((HTT.out w' hw').1.2.2.1))) hH ?_
  simp only [List.setIfInBounds_toArray, List.set_cons_zero, List.set_cons_succ]
  refine wpAnyH_ready (rs := [2]) (by kernel_rfl) (by simp) ?_
  refine AllReadyH.cons rfl (fun K hK => ?_) AllReadyH.nil
  rw [if_pos (by rfl)]
  go_simp
  go_wp2_with (go_at_call 37; refine (HHE.out _).mono ?_; rintro e w2 ⟨rfl, kw2⟩)
  have K2 : Kept w1.heap.size w1.heap.size w1 w2 := KD.trans (kw2.mono KD.size (fun i hi _ => Nat.ne_of_lt (Nat.lt_of_lt_of_le hi KD.size)))
  refine hK.out _ _ (K2) (fun hH => ?_)
  clear hK K
  refine wpAnyH_ready (rs := [5]) (by kernel_rfl) (by simp) ?_
  refine AllReadyH.cons rfl (fun K hK => ?_) AllReadyH.nil
  rw [if_pos (by rfl)]
  go_simp
  go_wp2_with (go_at_call 50; refine (HND.out _).mono ?_; rintro e w3 ⟨rfl, kw3⟩)
  have K3 : Kept w1.heap.size w1.heap.size w1 w3 := K2.trans (kw3.mono K2.size (fun i hi _ => Nat.ne_of_lt (Nat.lt_of_lt_of_le hi K2.size)))
  refine hK.out _ _ (K3) (fun hH => ?_)
  clear hK K
  refine wpAnyH_take_ex (i := 6) 10 rfl rfl (by kernel_rfl) (by kernel_rfl) (by kernel_rfl) (fun _ _ _ _ h => h) (by kernel_rfl) hH ?_
  apply Exists.intro
  apply And.intro
  · intro w9 _
    go_simp
    first | done | rfl
  simp only [List.setIfInBounds_toArray, List.set_cons_zero, List.set_cons_succ]
  refine wpAnyH_ready (rs := [9]) (by kernel_rfl) (by simp) ?_
  refine AllReadyH.cons rfl (fun K hK => ?_) AllReadyH.nil
  rw [if_pos (by rfl)]
  go_simp
  go_wp2_with (go_at_call 50; refine (HNA.out _).mono ?_; rintro e w4 ⟨rfl, kw4⟩)
  have K4 : Kept w1.heap.size w1.heap.size w1 w4 := K3.trans (kw4.mono K3.size (fun i hi _ => Nat.ne_of_lt (Nat.lt_of_lt_of_le hi K3.size)))
  refine hK.out _ _ (K4) (fun hH => ?_)
  clear hK K
  refine wpAnyH_take_ex (i := 10) 14 rfl rfl (by kernel_rfl) (by kernel_rfl) (by kernel_rfl) (fun _ _ _ _ h => h) (by kernel_rfl) hH ?_
  apply Exists.intro
  apply And.intro
  · intro w9 _
    go_simp
    first | done | rfl
  simp only [List.setIfInBounds_toArray, List.set_cons_zero, List.set_cons_succ]
  refine wpAnyH_ready (rs := [13]) (by kernel_rfl) (by simp) ?_
  refine AllReadyH.cons rfl (fun K hK => ?_) AllReadyH.nil
  rw [if_pos (by rfl)]
  go_simp
  go_wp2_with (go_at_call 50; refine (HNS.out _).mono ?_; rintro e w5 ⟨rfl, kw5⟩)
  have K5 : Kept w1.heap.size w1.heap.size w1 w5 := K4.trans (kw5.mono K4.size (fun i hi _ => Nat.ne_of_lt (Nat.lt_of_lt_of_le hi K4.size)))
  refine hK.out _ _ (K5) (fun hH => ?_)
  clear hK K
  refine wpAnyH_take_ex (i := 14) 18 rfl rfl (by kernel_rfl) (by kernel_rfl) (by kernel_rfl) (fun _ _ _ _ h => h) (by kernel_rfl) hH ?_
  apply Exists.intro
  apply And.intro
  · intro w9 _
    go_simp
    first | done | rfl
  simp only [List.setIfInBounds_toArray, List.set_cons_zero, List.set_cons_succ]
  refine wpAnyH_take_ex (i := 15) 3 rfl rfl (by kernel_rfl) (by kernel_rfl) (by kernel_rfl) (fun _ _ _ _ h => h) (by kernel_rfl) hH ?_
  apply Exists.intro
  apply And.intro
  · intro w9 _
    go_simp
    first | done | rfl
  simp only [List.setIfInBounds_toArray, List.set_cons_zero, List.set_cons_succ]
  refine wpAnyH_done (by kernel_rfl) ?_ _
  refine NoPanic.normal ?_
  have KE : Kept w1.heap.size w1.heap.size w1 w5.drew := K5.drew
  go_upto_region 2 with fail
  refine wp_region_noPanic ?_
  refine wp_region_held_drew (S := fun w' => Kept w1.heap.size w1.heap.size w1 w') (by kernel_rfl) (KE) (fun hH => ?_)
  refine wpAnyH_take_ex (i := 0) 19 rfl rfl (by kernel_rfl) (by kernel_rfl) (by kernel_rfl) (fun _ _ _ _ h => h) (by kernel_rfl) hH ?_
  apply Exists.intro
  apply And.intro
  · intro w9 _
    go_simp
    first | done | rfl
  simp only [List.setIfInBounds_toArray, List.set_cons_zero, List.set_cons_succ]
  refine wpAnyH_take_ex (i := 1) 20 rfl rfl (by kernel_rfl) (by kernel_rfl) (by kernel_rfl) (fun _ _ _ _ h => h) (by kernel_rfl) hH ?_
  apply Exists.intro
  apply And.intro
  · intro w9 _
    go_simp
    first | done | rfl
  simp only [List.setIfInBounds_toArray, List.set_cons_zero, List.set_cons_succ]
  refine wpAnyH_take_ex (i := 2) 21 rfl rfl (by kernel_rfl) (by kernel_rfl) (by kernel_rfl) (fun _ _ _ _ h => h) (by kernel_rfl) hH ?_
  apply Exists.intro
  apply And.intro
  · intro w9 _
    go_simp
    first | done | rfl
  simp only [List.setIfInBounds_toArray, List.set_cons_zero, List.set_cons_succ]
  refine wpAnyH_take_at (i := 3) 22 (.int .i64 (kn : Int)) rfl rfl (by kernel_rfl) (by kernel_rfl) (by kernel_rfl) (fun _ _ _ h => h) (yieldsIf_load_known (by kernel_rfl) 3 _ rfl (pb) (35) rfl (.int .i64 (kn : Int)) (fun w' hw' => load_int10 ((HTT.out w' hw').1.2.2.2.1))) hH ?_
  simp only [List.setIfInBounds_toArray, List.set_cons_zero, List.set_cons_succ]
  refine wpAnyH_take_ex (i := 6) 25 rfl rfl (by kernel_rfl) (by kernel_rfl) (by kernel_rfl) (fun _ _ _ _ h => h) (by kernel_rfl) hH ?_
  apply Exists.intro
  apply And.intro
  · intro w9 _
    go_simp
    first | done | rfl
  simp only [List.setIfInBounds_toArray, List.set_cons_zero, List.set_cons_succ]
  refine wpAnyH_take_ex (i := 7) 26 rfl rfl (by kernel_rfl) (by kernel_rfl) (by kernel_rfl) (fun _ _ _ _ h => h) (by kernel_rfl) hH ?_
  apply Exists.intro
  apply And.intro
  · intro w9 _
    go_simp
    first | done | rfl
  simp only [List.setIfInBounds_toArray, List.set_cons_zero, List.set_cons_succ]
  refine wpAnyH_take_at (i := 8) 27 (.int .i64 (nn : Int)) rfl rfl (by kernel_rfl) (by kernel_rfl) (by kernel_rfl) (fun _ _ _ h => h) (yieldsIf_load_known (by kernel_rfl) 3 _ rfl (pb) (36) rfl (.int .i64 (nn : Int)) (fun w' hw' => load_int10 ((HTT.out w' hw').1.2.2.2.2))) hH ?_
  simp only [List.setIfInBounds_toArray, List.set_cons_zero, List.set_cons_succ]
  refine wpAnyH_take_ex (i := 11) 30 rfl rfl (by kernel_rfl) (by kernel_rfl) (by kernel_rfl) (fun _ _ _ _ h => h) (by kernel_rfl) hH ?_
  apply Exists.intro
  apply And.intro
  · intro w9 _
    go_simp
    first | done | rfl
  simp only [List.setIfInBounds_toArray, List.set_cons_zero, List.set_cons_succ]
  refine wpAnyH_take_ex (i := 12) 31 rfl rfl (by kernel_rfl) (by kernel_rfl) (by kernel_rfl) (fun _ _ _ _ h => h) (by kernel_rfl) hH ?_
  apply Exists.intro
  apply And.intro
  · intro w9 _
    go_simp
    first | done | rfl
  simp only [List.setIfInBounds_toArray, List.set_cons_zero, List.set_cons_succ]
  refine wpAnyH_take_at (i := 13) 32 (.agg dp) rfl rfl (by kernel_rfl) (by kernel_rfl) (by kernel_rfl) (fun _ _ _ h => h) (yieldsIf_load_known (by kernel_rfl) 23 _ rfl (pb) (37) rfl (.agg dp) (fun w' hw' => (HTT.out w' hw').2.2)) hH ?_
  simp only [List.setIfInBounds_toArray, List.set_cons_zero, List.set_cons_succ]
  refine wpAnyH_ready (rs := [4]) (by kernel_rfl) (by simp) ?_
  refine AllReadyH.cons rfl (fun K hK => ?_) AllReadyH.nil
  rw [if_pos (by rfl)]
  go_simp
  go_wp2_with (go_at_call 50; refine (HNK.out _).mono ?_; rintro e w6 ⟨rfl, kw6⟩)
  have K6 : Kept w1.heap.size w1.heap.size w1 w6 := KE.trans (kw6.mono KE.size (fun i hi _ => Nat.ne_of_lt (Nat.lt_of_lt_of_le hi KE.size)))
  refine hK.out _ _ (K6) (fun hH => ?_)
  clear hK K
  refine wpAnyH_take_ex (i := 5) 24 rfl rfl (by kernel_rfl) (by kernel_rfl) (by kernel_rfl) (fun _ _ _ _ h => h) (by kernel_rfl) hH ?_
  apply Exists.intro
  apply And.intro
  · intro w9 _
    go_simp
    first | done | rfl
  simp only [List.setIfInBounds_toArray, List.set_cons_zero, List.set_cons_succ]
  refine wpAnyH_ready (rs := [9]) (by kernel_rfl) (by simp) ?_
  refine AllReadyH.cons rfl (fun K hK => ?_) AllReadyH.nil
  rw [if_pos (by rfl)]
  go_simp
  go_wp2_with (go_at_call 50; refine (HNN.out _).mono ?_; rintro e w7 ⟨rfl, kw7⟩)
  have K7 : Kept w1.heap.size w1.heap.size w1 w7 := K6.trans (kw7.mono K6.size (fun i hi _ => Nat.ne_of_lt (Nat.lt_of_lt_of_le hi K6.size)))
  refine hK.out _ _ (K7) (fun hH => ?_)
  clear hK K
  refine wpAnyH_take_ex (i := 10) 29 rfl rfl (by kernel_rfl) (by kernel_rfl) (by kernel_rfl) (fun _ _ _ _ h => h) (by kernel_rfl) hH ?_
  apply Exists.intro
  apply And.intro
  · intro w9 _
    go_simp
    first | done | rfl
  simp only [List.setIfInBounds_toArray, List.set_cons_zero, List.set_cons_succ]
  refine wpAnyH_ready (rs := [14]) (by kernel_rfl) (by simp) ?_
  refine AllReadyH.cons rfl (fun K hK => ?_) AllReadyH.nil
  rw [if_pos (by rfl)]
  go_simp
  go_wp2_with (go_at_call 37; refine (HHP.out _).mono ?_; rintro e w8 ⟨rfl, kw8⟩)
  have K8 : Kept w1.heap.size w1.heap.size w1 w8 := K7.trans (kw8.mono K7.size (fun i hi _ => Nat.ne_of_lt (Nat.lt_of_lt_of_le hi K7.size)))
  refine hK.out _ _ (K8) (fun hH => ?_)
  clear hK K
  refine wpAnyH_take_ex (i := 15) 34 rfl rfl (by kernel_rfl) (by kernel_rfl) (by kernel_rfl) (fun _ _ _ _ h => h) (by kernel_rfl) hH ?_
  apply Exists.intro
  apply And.intro
  · intro w9 _
    go_simp
    first | done | rfl
  simp only [List.setIfInBounds_toArray, List.set_cons_zero, List.set_cons_succ]
  refine wpAnyH_take_ex (i := 16) 2 rfl rfl (by kernel_rfl) (by kernel_rfl) (by kernel_rfl) (fun _ _ _ _ h => h) (by kernel_rfl) hH ?_
  apply Exists.intro
  apply And.intro
  · intro w9 _
    go_simp
    first | done | rfl
  simp only [List.setIfInBounds_toArray, List.set_cons_zero, List.set_cons_succ]
  refine wpAnyH_done (by kernel_rfl) ?_ _
  refine NoPanic.normal ?_
  go_wp2
  go_ret
  rw [HFIN.out]
  exact ⟨rfl, K1.out.onto K8⟩

end Go.Proofs.YtcjcomeakkjiiaaDoor
