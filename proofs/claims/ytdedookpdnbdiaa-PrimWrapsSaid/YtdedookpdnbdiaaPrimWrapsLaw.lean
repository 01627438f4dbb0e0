/-
  The walk of the statement PrimWraps: what is wrapped is the document's, and is unwrapped as it was by the secret key.
-/
import Derived.Test.YtdedookpdnbdiaaGN
import Derived.Test.YtdedookpdnbdiaaGO

namespace Go.Proofs.Ytdedookpdnbdiaa
open Go.RowKit Go.Lib

set_option maxRecDepth 100000 in
set_option maxHeartbeats 3200000 in
theorem primwraps_walk (a b : List UInt8) (ha : a.length = 32) (hb : b.length = 32) (ab : ByteArray) (s : List UInt8) (w : World) : Calls Try.prog 7 #[.agg (bcells a).toArray, .agg (bcells b).toArray, .string ab, .string (str s)] w fun e w' => e = .returned (.bool true) ∧ Kept w.heap.size w.heap.size w w' := by
  have hsz : (str s).size = s.length := str_size s
  have hpl := Pm.pub_length a
  have cpub := fun w => pub_nil a (Lib.hid ha) w
  have rpub := fun w => refpub_calls a (Lib.hid ha) w
  have cnone : 65536 < (str s).size → ∀ w, Calls Try.prog 40 #[.pointer none, .agg (bcells (Pm.pub a)).toArray, .agg (bcells b).toArray, .string ab, .string (str s), .slice none 0 0] w fun e w' => e = .returned (.string ⟨#[]⟩) ∧ Kept w.heap.size w.heap.size w w' := fun h w =>
    wrap_of (Pm.pub a) b (Lib.hid hpl) (Lib.hid hb) ab s [] (by decide) w (fun w' => seal_none _ ab s (by omega) none (.slice none 0 0) w')
  have cwrap : (str s).size ≤ 65536 → ab.size < 268435456 → ∀ w, Calls Try.prog 40 #[.pointer none, .agg (bcells (Pm.pub a)).toArray, .agg (bcells b).toArray, .string ab, .string (str s), .slice none 0 0] w fun e w' => e = .returned (.string (str (Pm.wrapped (Pm.pub a) b ab.data.toList s))) ∧ Kept w.heap.size w.heap.size w w' := fun h h1 w => by
    have hl := Pm.sealed_length (Pm.kem (Pm.pub a) b) ab.data.toList s
    have := wrap_of (Pm.pub a) b (Lib.hid hpl) (Lib.hid hb) ab s (Pm.sealed (Pm.kem (Pm.pub a) b) ab.data.toList s) (by omega) w (fun w' => seal_nil _ (Lib.hid (Pm.kem_length _ _)) ab (Lib.hid h1) s (Lib.hid (by omega)) w')
    rw [if_neg (by
      intro e
      rw [eq_of_beq e] at hl
      cases hl)] at this
    exact this
  have cun : (str s).size ≤ 65536 → ab.size < 268435456 → ∀ w, Calls Try.prog 37 #[.agg (bcells a).toArray, .string ab, .string (str (Pm.wrapped (Pm.pub a) b ab.data.toList s))] w fun e w' => e = .returned (.tuple #[.string (str s), .int .i64 0]) ∧ Kept w.heap.size w.heap.size w w' := fun h h1 w => by
    have := unwrap_calls a (Lib.hid ha) ab (Lib.hid h1) (Pm.wrapped (Pm.pub a) b ab.data.toList s) (by rw [Pm.wrapped, List.length_append, Pm.sealed_length]; omega) w
    rw [Pm.unwrapped_wrapped a b ab.data.toList s hb (by omega)] at this
    exact this
  have cref := fun (h : (str s).size ≤ 3000) (h1 : ab.size ≤ 3000) w => refwrap_calls (Pm.pub a) b (Lib.hid hpl) (Lib.hid hb) ab (Lib.hid h1) s (Lib.hid (by omega)) w
  have hai := keyInfo ha
  have hbi := keyInfo hb
  have hpi := keyInfo hpl
  have hpz := keySize hpl
  have hpa := bcells_all (Pm.pub a)
  generalize str (Pm.wrapped (Pm.pub a) b ab.data.toList s) = swr at cwrap cun cref
  generalize str s = sx at cnone cwrap cun cref ⊢
  generalize (bcells (Pm.pub a)).toArray = cp at cpub rpub cnone cwrap cref hpi hpz hpa
  generalize (bcells a).toArray = ka at cpub rpub cun hai ⊢
  generalize (bcells b).toArray = kb at cnone cwrap cref hbi ⊢
  have CPUB := Lib.hid cpub
  have RPUB := Lib.hid rpub
  have CNONE := Lib.hid cnone
  have CWRAP := Lib.hid cwrap
  have CUN := Lib.hid cun
  have CREF := Lib.hid cref
  have HAI := Lib.hid hai
  have HBI := Lib.hid hbi
  have HPI := Lib.hid hpi
  have HPZ := Lib.hid hpz
  have HPA := Lib.hid hpa
  clear cpub rpub cnone cwrap cun cref hai hbi hpi hpz hpa hsz hpl
  have haw := fun w => prim_awake w
  have HAW := Lib.hid haw
  clear haw
  go_enter Try.func7, Try.ntmps7
  go_upto_region 1 with fail
  have hA : ((w.alloc (.cells ka 34)).alloc (.cells kb 34)).heap[w.heap.size]? = some (.cells ka 34 (0, 0)) := heap_alloc2_old w _ _
  have hB : ((w.alloc (.cells ka 34)).alloc (.cells kb 34)).heap[w.heap.size + 1]? = some (.cells kb 34 (0, 0)) := heap_alloc2_last w _ _
  have k1 : Kept w.heap.size w.heap.size w ((w.alloc (.cells ka 34)).alloc (.cells kb 34)) := ((Kept.refl _ _ _).alloc (Nat.le_refl _) _).alloc (by simp) _
  generalize (w.alloc (.cells ka 34)).alloc (.cells kb 34) = w1 at hA hB k1 ⊢
  obtain ⟨wa, hwa⟩ : ∃ wa, wa = w.heap.size := ⟨_, rfl⟩
  rw [← hwa] at hA hB ⊢
  have R1 := Lib.hid hA
  have R2 := Lib.hid hB
  have HK1 := Lib.hid k1
  clear hwa k1 hA hB
  refine wp_region_lit ?_
  refine @BigFrame.wpList_want _ _ _ _ _ _ _ ?hwa0 ?_
  case hwa0 => kernel_rfl
  intro K hK
  go_simp
  go_at_call 20; refine (HAW.out _).mono ?_; rintro e w2 ⟨rfl, k2⟩
  refine hK _ _ ?_
  clear hK K
  refine @BigFrame.wpList_want _ _ _ _ _ _ _ ?hwb00 ?_
  case hwb00 => kernel_rfl
  intro K hK
  go_simp
  refine hK _ _ ?_
  clear hK K
  refine @BigFrame.wpList_want _ _ _ _ _ _ _ ?hwb01 ?_
  case hwb01 => kernel_rfl
  intro K hK
  go_simp
  refine hK _ _ ?_
  clear hK K
  refine @BigFrame.wpList_want _ _ _ _ _ _ _ ?hwb02 ?_
  case hwb02 => kernel_rfl
  intro K hK
  go_simp
  refine hK _ _ ?_
  clear hK K
  refine @BigFrame.wpList_want _ _ _ _ _ _ _ ?hwb03 ?_
  case hwb03 => kernel_rfl
  intro K hK
  go_simp
  refine hK _ _ ?_
  clear hK K
  by_cases hz : 3000 < ab.size
  · have hd : decide ((3000 : Int) < (ab.size : Int)) = true := decide_eq_true (by omega)
    refine @BigFrame.wpList_want _ _ _ _ _ _ _ ?hwc00 ?_
    case hwc00 => kernel_rfl
    intro K hK
    go_simp
    refine hK _ _ ?_
    clear hK K
    refine @BigFrame.wpList_want _ _ _ _ _ _ _ ?hwc01 ?_
    case hwc01 => kernel_rfl
    intro K hK
    go_simp
    refine hK _ _ ?_
    clear hK K
    refine @BigFrame.wpList_want _ _ _ _ _ _ _ ?hwc02 ?_
    case hwc02 => kernel_rfl
    intro K hK
    go_simp
    refine hK _ _ ?_
    clear hK K
    refine @wpList_skip _ _ _ _ _ _ _ ?hwd00 ?_
    case hwd00 => kernel_rfl
    simp only [Act.put, List.setIfInBounds_toArray, List.set_cons_zero, List.set_cons_succ]
    refine @wpList_skip _ _ _ _ _ _ _ ?hwd01 ?_
    case hwd01 => kernel_rfl
    simp only [Act.put, List.setIfInBounds_toArray, List.set_cons_zero, List.set_cons_succ]
    refine @wpList_skip _ _ _ _ _ _ _ ?hwd02 ?_
    case hwd02 => kernel_rfl
    simp only [Act.put, List.setIfInBounds_toArray, List.set_cons_zero, List.set_cons_succ]
    refine @wpList_skip _ _ _ _ _ _ _ ?hwd03 ?_
    case hwd03 => kernel_rfl
    simp only [Act.put, List.setIfInBounds_toArray, List.set_cons_zero, List.set_cons_succ]
    refine @wpList_skip _ _ _ _ _ _ _ ?hwd04 ?_
    case hwd04 => kernel_rfl
    simp only [Act.put, List.setIfInBounds_toArray, List.set_cons_zero, List.set_cons_succ]
    refine @wpList_skip _ _ _ _ _ _ _ ?hwd05 ?_
    case hwd05 => kernel_rfl
    simp only [Act.put, List.setIfInBounds_toArray, List.set_cons_zero, List.set_cons_succ]
    refine @wpList_skip _ _ _ _ _ _ _ ?hwd06 ?_
    case hwd06 => kernel_rfl
    simp only [Act.put, List.setIfInBounds_toArray, List.set_cons_zero, List.set_cons_succ]
    refine @wpList_skip _ _ _ _ _ _ _ ?hwd07 ?_
    case hwd07 => kernel_rfl
    simp only [Act.put, List.setIfInBounds_toArray, List.set_cons_zero, List.set_cons_succ]
    refine @BigFrame.wpList_want _ _ _ _ _ _ _ ?hwd9 ?_
    case hwd9 => kernel_rfl
    intro K hK
    go_simp
    refine hK _ _ ?_
    clear hK K
    go_wp2_with (go_at_call 20; refine (HAW.out _).mono ?_; rintro e w3 ⟨rfl, k3⟩)
    go_ret
    exact ⟨rfl, HK1.out.trans ((k2.trans (k3.mono k2.size (fun i hi _ => Nat.ne_of_lt (Nat.lt_of_lt_of_le hi k2.size)))).mono HK1.out.size (fun i hi _ => by have := HK1.out.size; omega))⟩
  have hd : decide ((3000 : Int) < (ab.size : Int)) = false := decide_eq_false (by omega)
  refine @BigFrame.wpList_want _ _ _ _ _ _ _ ?hwe00 ?_
  case hwe00 => kernel_rfl
  intro K hK
  go_simp
  refine hK _ _ ?_
  clear hK K
  refine @BigFrame.wpList_want _ _ _ _ _ _ _ ?hwe01 ?_
  case hwe01 => kernel_rfl
  intro K hK
  go_simp
  refine hK _ _ ?_
  clear hK K
  refine @BigFrame.wpList_want _ _ _ _ _ _ _ ?hwe02 ?_
  case hwe02 => kernel_rfl
  intro K hK
  go_simp
  refine hK _ _ ?_
  clear hK K
  refine @BigFrame.wpList_want _ _ _ _ _ _ _ ?hwe03 ?_
  case hwe03 => kernel_rfl
  intro K hK
  go_simp
  refine hK _ _ ?_
  clear hK K
  refine @BigFrame.wpList_want _ _ _ _ _ _ _ ?hwe04 ?_
  case hwe04 => kernel_rfl
  intro K hK
  go_simp
  refine hK _ _ ?_
  clear hK K
  by_cases hy : 3000 < sx.size
  · have hd2 : decide ((3000 : Int) < (sx.size : Int)) = true := decide_eq_true (by omega)
    refine @BigFrame.wpList_want _ _ _ _ _ _ _ ?hwf00 ?_
    case hwf00 => kernel_rfl
    intro K hK
    go_simp
    refine hK _ _ ?_
    clear hK K
    refine @BigFrame.wpList_want _ _ _ _ _ _ _ ?hwf01 ?_
    case hwf01 => kernel_rfl
    intro K hK
    go_simp
    refine hK _ _ ?_
    clear hK K
    refine @BigFrame.wpList_want _ _ _ _ _ _ _ ?hwf02 ?_
    case hwf02 => kernel_rfl
    intro K hK
    go_simp
    refine hK _ _ ?_
    clear hK K
    refine @BigFrame.wpList_want _ _ _ _ _ _ _ ?hwf03 ?_
    case hwf03 => kernel_rfl
    intro K hK
    go_simp
    refine hK _ _ ?_
    clear hK K
    by_cases hx : sx.size ≤ 65536
    · have hd3 : decide ((sx.size : Int) ≤ (65536 : Int)) = true := decide_eq_true (by omega)
      refine @BigFrame.wpList_want _ _ _ _ _ _ _ ?hwg00 ?_
      case hwg00 => kernel_rfl
      intro K hK
      go_simp
      refine hK _ _ ?_
      clear hK K
      refine @BigFrame.wpList_want _ _ _ _ _ _ _ ?hwg01 ?_
      case hwg01 => kernel_rfl
      intro K hK
      go_simp
      refine hK _ _ ?_
      clear hK K
      refine @BigFrame.wpList_want _ _ _ _ _ _ _ ?hwg02 ?_
      case hwg02 => kernel_rfl
      intro K hK
      go_simp
      refine hK _ _ ?_
      clear hK K
      go_wp2_with (go_at_call 20; refine (HAW.out _).mono ?_; rintro e w3 ⟨rfl, k3⟩)
      go_ret
      exact ⟨rfl, HK1.out.trans ((k2.trans (k3.mono k2.size (fun i hi _ => Nat.ne_of_lt (Nat.lt_of_lt_of_le hi k2.size)))).mono HK1.out.size (fun i hi _ => by have := HK1.out.size; omega))⟩
    have hd3 : decide ((sx.size : Int) ≤ (65536 : Int)) = false := decide_eq_false (by omega)
    refine @BigFrame.wpList_want _ _ _ _ _ _ _ ?hwh00 ?_
    case hwh00 => kernel_rfl
    intro K hK
    go_simp
    refine hK _ _ ?_
    clear hK K
    refine @BigFrame.wpList_want _ _ _ _ _ _ _ ?hwh01 ?_
    case hwh01 => kernel_rfl
    intro K hK
    go_simp
    refine hK _ _ ?_
    clear hK K
    refine @BigFrame.wpList_want _ _ _ _ _ _ _ ?hwh02 ?_
    case hwh02 => kernel_rfl
    intro K hK
    go_simp
    refine hK _ _ ?_
    clear hK K
    have hd4 : decide ((65536 : Int) < (sx.size : Int)) = true := decide_eq_true (by omega)
    have CW := Lib.hid (CNONE.out (by omega))
    clear CNONE CWRAP CUN CREF
    have qk2 := (k2.block _ (lt_of_block R1.out) (Nat.ne_of_lt (lt_of_block R1.out))).trans R1.out
    go_upto_region 3 with fail
    refine wp_region_lit ?_
    refine wpList_load_row_g ?hwl0 34 _ rfl (wa) rfl 34 ka (0, 0) _ (qk2) Try.underlying34 rfl HAI.out ?_
    case hwl0 => kernel_rfl
    simp only [Act.put, List.setIfInBounds_toArray, List.set_cons_zero, List.set_cons_succ]
    refine @BigFrame.wpList_want _ _ _ _ _ _ _ ?hwl1 ?_
    case hwl1 => kernel_rfl
    intro K hK
    go_simp
    go_at_call 22; refine (CPUB.out _).mono ?_; rintro e w3 ⟨rfl, kw3⟩
    refine hK _ _ ?_
    clear hK K
    have Kw3 : Kept w1.heap.size w1.heap.size w1 w3 := k2.trans (kw3.mono k2.size (fun i hi _ => Nat.ne_of_lt (Nat.lt_of_lt_of_le hi k2.size)))
    refine wpList_alloc_k rfl 34 rfl (alloc_zero _) ?_
    simp only [Act.put, List.setIfInBounds_toArray, List.set_cons_zero, List.set_cons_succ]
    refine wpList_store_row rfl 34 _ _ rfl (w3.heap.size) cp rfl rfl 34 zeros32 (heap_new _ _) HPI.out HPZ.out HPA.out ?_
    simp only [Act.put]
    have K4 : Kept w1.heap.size w1.heap.size w1 (w3.alloc (.cells zeros32 34)) := Kw3.alloc Kw3.size _
    have Kw4 : Kept w1.heap.size w1.heap.size w1 ((w3.alloc (.cells zeros32 34)).setRow w3.heap.size cp) := Kept.ofBelow (below_setRow (K4.below (Nat.le_refl _) (Nat.le_refl _)) Kw3.size cp) (Nat.le_refl _)
    have r4 := setRow_heap (w3.alloc (.cells zeros32 34)) w3.heap.size zeros32 cp _ _ (heap_new _ _)
    have o4 := (Kw4.block _ (lt_of_block R2.out) (Nat.ne_of_lt (lt_of_block R2.out))).trans R2.out
    generalize (w3.alloc (.cells zeros32 34)).setRow w3.heap.size cp = w4 at Kw4 r4 o4 ⊢
    generalize w3.heap.size = wm at r4 ⊢
    clear K4
    go_upto_region 4 with fail
    refine wp_region_lit ?_
    refine wpList_load_row_g ?hwl4 34 _ rfl (wm) rfl 34 cp (0, 0) _ (r4) Try.underlying34 rfl HPI.out ?_
    case hwl4 => kernel_rfl
    simp only [Act.put, List.setIfInBounds_toArray, List.set_cons_zero, List.set_cons_succ]
    refine wpList_load_row_g ?hwl5 34 _ rfl (wa + 1) rfl 34 kb (0, 0) _ (o4) Try.underlying34 rfl HBI.out ?_
    case hwl5 => kernel_rfl
    simp only [Act.put, List.setIfInBounds_toArray, List.set_cons_zero, List.set_cons_succ]
    refine @BigFrame.wpList_want _ _ _ _ _ _ _ ?hwl6 ?_
    case hwl6 => kernel_rfl
    intro K hK
    go_simp
    refine hK _ _ ?_
    clear hK K
    refine @BigFrame.wpList_want _ _ _ _ _ _ _ ?hwl7 ?_
    case hwl7 => kernel_rfl
    intro K hK
    go_simp
    refine hK _ _ ?_
    clear hK K
    refine @BigFrame.wpList_want _ _ _ _ _ _ _ ?hwl8 ?_
    case hwl8 => kernel_rfl
    intro K hK
    go_simp
    go_at_call 40; refine (CW.out _).mono ?_; rintro e w5 ⟨rfl, kw5⟩
    refine hK _ _ ?_
    clear hK K
    have Kw5 : Kept w1.heap.size w1.heap.size w1 w5 := Kw4.trans (kw5.mono Kw4.size (fun i hi _ => Nat.ne_of_lt (Nat.lt_of_lt_of_le hi Kw4.size)))
    go_wp2
    go_ret
    exact ⟨rfl, HK1.out.trans (Kw5.mono HK1.out.size (fun i hi _ => by have := HK1.out.size; omega))⟩
  have hd2 : decide ((3000 : Int) < (sx.size : Int)) = false := decide_eq_false (by omega)
  refine @BigFrame.wpList_want _ _ _ _ _ _ _ ?hwi00 ?_
  case hwi00 => kernel_rfl
  intro K hK
  go_simp
  refine hK _ _ ?_
  clear hK K
  refine @BigFrame.wpList_want _ _ _ _ _ _ _ ?hwi01 ?_
  case hwi01 => kernel_rfl
  intro K hK
  go_simp
  refine hK _ _ ?_
  clear hK K
  refine @wpList_skip _ _ _ _ _ _ _ ?hwj00 ?_
  case hwj00 => kernel_rfl
  simp only [Act.put, List.setIfInBounds_toArray, List.set_cons_zero, List.set_cons_succ]
  refine @wpList_skip _ _ _ _ _ _ _ ?hwj01 ?_
  case hwj01 => kernel_rfl
  simp only [Act.put, List.setIfInBounds_toArray, List.set_cons_zero, List.set_cons_succ]
  refine @wpList_skip _ _ _ _ _ _ _ ?hwj02 ?_
  case hwj02 => kernel_rfl
  simp only [Act.put, List.setIfInBounds_toArray, List.set_cons_zero, List.set_cons_succ]
  refine @BigFrame.wpList_want _ _ _ _ _ _ _ ?hwk00 ?_
  case hwk00 => kernel_rfl
  intro K hK
  go_simp
  refine hK _ _ ?_
  clear hK K
  refine @BigFrame.wpList_want _ _ _ _ _ _ _ ?hwk01 ?_
  case hwk01 => kernel_rfl
  intro K hK
  go_simp
  refine hK _ _ ?_
  clear hK K
  have hd4 : decide ((65536 : Int) < (sx.size : Int)) = false := decide_eq_false (by omega)
  have CW := Lib.hid (CWRAP.out (by omega) (by omega))
  have CU := Lib.hid (CUN.out (by omega) (by omega))
  have CR := Lib.hid (CREF.out (by omega) (by omega))
  clear CNONE CWRAP CUN CREF
  have qk2 := (k2.block _ (lt_of_block R1.out) (Nat.ne_of_lt (lt_of_block R1.out))).trans R1.out
  go_upto_region 3 with fail
  refine wp_region_lit ?_
  refine wpList_load_row_g ?hwm0 34 _ rfl (wa) rfl 34 ka (0, 0) _ (qk2) Try.underlying34 rfl HAI.out ?_
  case hwm0 => kernel_rfl
  simp only [Act.put, List.setIfInBounds_toArray, List.set_cons_zero, List.set_cons_succ]
  refine @BigFrame.wpList_want _ _ _ _ _ _ _ ?hwm1 ?_
  case hwm1 => kernel_rfl
  intro K hK
  go_simp
  go_at_call 22; refine (CPUB.out _).mono ?_; rintro e w3 ⟨rfl, kw3⟩
  refine hK _ _ ?_
  clear hK K
  have Kw3 : Kept w1.heap.size w1.heap.size w1 w3 := k2.trans (kw3.mono k2.size (fun i hi _ => Nat.ne_of_lt (Nat.lt_of_lt_of_le hi k2.size)))
  refine wpList_alloc_k rfl 34 rfl (alloc_zero _) ?_
  simp only [Act.put, List.setIfInBounds_toArray, List.set_cons_zero, List.set_cons_succ]
  refine wpList_store_row rfl 34 _ _ rfl (w3.heap.size) cp rfl rfl 34 zeros32 (heap_new _ _) HPI.out HPZ.out HPA.out ?_
  simp only [Act.put]
  have K4 : Kept w1.heap.size w1.heap.size w1 (w3.alloc (.cells zeros32 34)) := Kw3.alloc Kw3.size _
  have Kw4 : Kept w1.heap.size w1.heap.size w1 ((w3.alloc (.cells zeros32 34)).setRow w3.heap.size cp) := Kept.ofBelow (below_setRow (K4.below (Nat.le_refl _) (Nat.le_refl _)) Kw3.size cp) (Nat.le_refl _)
  have r4 := setRow_heap (w3.alloc (.cells zeros32 34)) w3.heap.size zeros32 cp _ _ (heap_new _ _)
  have o4 := (Kw4.block _ (lt_of_block R2.out) (Nat.ne_of_lt (lt_of_block R2.out))).trans R2.out
  generalize (w3.alloc (.cells zeros32 34)).setRow w3.heap.size cp = w4 at Kw4 r4 o4 ⊢
  generalize w3.heap.size = wm at r4 ⊢
  clear K4
  go_upto_region 4 with fail
  refine wp_region_lit ?_
  refine wpList_load_row_g ?hwm4 34 _ rfl (wm) rfl 34 cp (0, 0) _ (r4) Try.underlying34 rfl HPI.out ?_
  case hwm4 => kernel_rfl
  simp only [Act.put, List.setIfInBounds_toArray, List.set_cons_zero, List.set_cons_succ]
  refine wpList_load_row_g ?hwm5 34 _ rfl (wa + 1) rfl 34 kb (0, 0) _ (o4) Try.underlying34 rfl HBI.out ?_
  case hwm5 => kernel_rfl
  simp only [Act.put, List.setIfInBounds_toArray, List.set_cons_zero, List.set_cons_succ]
  refine @BigFrame.wpList_want _ _ _ _ _ _ _ ?hwm6 ?_
  case hwm6 => kernel_rfl
  intro K hK
  go_simp
  refine hK _ _ ?_
  clear hK K
  refine @BigFrame.wpList_want _ _ _ _ _ _ _ ?hwm7 ?_
  case hwm7 => kernel_rfl
  intro K hK
  go_simp
  refine hK _ _ ?_
  clear hK K
  refine @BigFrame.wpList_want _ _ _ _ _ _ _ ?hwm8 ?_
  case hwm8 => kernel_rfl
  intro K hK
  go_simp
  go_at_call 40; refine (CW.out _).mono ?_; rintro e w5 ⟨rfl, kw5⟩
  refine hK _ _ ?_
  clear hK K
  have Kw5 : Kept w1.heap.size w1.heap.size w1 w5 := Kw4.trans (kw5.mono Kw4.size (fun i hi _ => Nat.ne_of_lt (Nat.lt_of_lt_of_le hi Kw4.size)))
  have qw5 := (Kw5.block _ (lt_of_block R1.out) (Nat.ne_of_lt (lt_of_block R1.out))).trans R1.out
  go_upto_region 7 with fail
  refine wp_region_lit ?_
  refine wpList_load_row_g ?hwn0 34 _ rfl (wa) rfl 34 ka (0, 0) _ (qw5) Try.underlying34 rfl HAI.out ?_
  case hwn0 => kernel_rfl
  simp only [Act.put, List.setIfInBounds_toArray, List.set_cons_zero, List.set_cons_succ]
  refine @BigFrame.wpList_want _ _ _ _ _ _ _ ?hwn1 ?_
  case hwn1 => kernel_rfl
  intro K hK
  go_simp
  refine hK _ _ ?_
  clear hK K
  refine @BigFrame.wpList_want _ _ _ _ _ _ _ ?hwn2 ?_
  case hwn2 => kernel_rfl
  intro K hK
  go_simp
  refine hK _ _ ?_
  clear hK K
  refine @BigFrame.wpList_want _ _ _ _ _ _ _ ?hwn3 ?_
  case hwn3 => kernel_rfl
  intro K hK
  go_simp
  go_at_call 37; refine (CU.out _).mono ?_; rintro e w6 ⟨rfl, kw6⟩
  refine hK _ _ ?_
  clear hK K
  have Kw6 : Kept w1.heap.size w1.heap.size w1 w6 := Kw5.trans (kw6.mono Kw5.size (fun i hi _ => Nat.ne_of_lt (Nat.lt_of_lt_of_le hi Kw5.size)))
  have qw6 := (Kw6.block _ (lt_of_block R1.out) (Nat.ne_of_lt (lt_of_block R1.out))).trans R1.out
  have ow6 := (Kw6.block _ (lt_of_block R2.out) (Nat.ne_of_lt (lt_of_block R2.out))).trans R2.out
  have hld : ∀ w', Kept w6.heap.size w6.heap.size w6 w' → (loadVar 34 ⟨wa, 0, none⟩).run Try.prog w' = .ok (.agg ka) w' ∧ (loadVar 34 ⟨wa + 1, 0, none⟩).run Try.prog w' = .ok (.agg kb) w' := fun w' kk =>
    ⟨run_loadVar_row w' wa 34 34 ka (0, 0) _ ((kk.block _ (lt_of_block qw6) (Nat.ne_of_lt (lt_of_block qw6))).trans qw6) Try.underlying34 rfl HAI.out, run_loadVar_row w' (wa + 1) 34 34 kb (0, 0) _ ((kk.block _ (lt_of_block ow6) (Nat.ne_of_lt (lt_of_block ow6))).trans ow6) Try.underlying34 rfl HBI.out⟩
  have HLD := Lib.hid hld
  have HK6 := Lib.hid (HK1.out.trans (Kw6.mono HK1.out.size (fun i hi _ => by have := HK1.out.size; omega)))
  have KD : Kept w6.heap.size w6.heap.size w6 w6.drew := (Kept.refl _ _ _).drew
  clear hld ow6 qw6 qw5 Kw5 Kw6 r4 o4 Kw4 Kw3 kw3 kw5 kw6 k2 qk2
  go_upto_region 8 with fail
  refine wp_region_noPanic ?_
  refine wp_region_held_drew (S := fun w' => Kept w6.heap.size w6.heap.size w6 w') (by kernel_rfl) (KD) (fun hH => ?_)
  refine wpAnyH_take_at (i := 0) 50 (.string swr) rfl rfl (by kernel_rfl) (by kernel_rfl) (by kernel_rfl) (fun _ _ _ h => h) (.inl ⟨by kernel_rfl, fun w9 _ => by go_simp⟩) hH ?_
  simp only [List.setIfInBounds_toArray, List.set_cons_zero, List.set_cons_succ]
  refine wpAnyH_take_at (i := 1) 51 (.agg ka) rfl rfl (by kernel_rfl) (by kernel_rfl) (by kernel_rfl) (fun _ _ _ h => h) (yieldsIf_load_known (by kernel_rfl) 34 _ rfl (wa) (0) rfl (.agg ka) (fun w' hw' => (HLD.out w' hw').1)) hH ?_
  simp only [List.setIfInBounds_toArray, List.set_cons_zero, List.set_cons_succ]
  refine wpAnyH_take_at (i := 3) 53 (.agg kb) rfl rfl (by kernel_rfl) (by kernel_rfl) (by kernel_rfl) (fun _ _ _ h => h) (yieldsIf_load_known (by kernel_rfl) 34 _ rfl (wa + 1) (0) rfl (.agg kb) (fun w' hw' => (HLD.out w' hw').2)) hH ?_
  simp only [List.setIfInBounds_toArray, List.set_cons_zero, List.set_cons_succ]
  refine wpAnyH_take_at (i := 4) 54 (.string ab) rfl rfl (by kernel_rfl) (by kernel_rfl) (by kernel_rfl) (fun _ _ _ h => h) (.inl ⟨by kernel_rfl, fun w9 _ => by go_simp⟩) hH ?_
  simp only [List.setIfInBounds_toArray, List.set_cons_zero, List.set_cons_succ]
  refine wpAnyH_take_at (i := 5) 55 (.string sx) rfl rfl (by kernel_rfl) (by kernel_rfl) (by kernel_rfl) (fun _ _ _ h => h) (.inl ⟨by kernel_rfl, fun w9 _ => by go_simp⟩) hH ?_
  simp only [List.setIfInBounds_toArray, List.set_cons_zero, List.set_cons_succ]
  refine wpAnyH_ready (rs := [2]) (by kernel_rfl) (by simp) ?_
  refine AllReadyH.cons rfl (fun K hK => ?_) AllReadyH.nil
  rw [if_pos (by rfl)]
  go_simp
  go_wp2_with (go_at_call 23; refine (RPUB.out _).mono ?_; rintro e w7 ⟨rfl, kw7⟩)
  have Kw7 : Kept w6.heap.size w6.heap.size w6 w7 := KD.trans (kw7.mono KD.size (fun i hi _ => Nat.ne_of_lt (Nat.lt_of_lt_of_le hi KD.size)))
  refine hK.out _ _ (Kw7) (fun hH => ?_)
  clear hK K
  refine wpAnyH_ready (rs := [6]) (by kernel_rfl) (by simp) ?_
  refine AllReadyH.cons rfl (fun K hK => ?_) AllReadyH.nil
  rw [if_pos (by rfl)]
  go_simp
  go_wp2_with (go_at_call 41; refine (CR.out _).mono ?_; rintro e w8 ⟨rfl, kw8⟩)
  have Kw8 : Kept w6.heap.size w6.heap.size w6 w8 := Kw7.trans (kw8.mono Kw7.size (fun i hi _ => Nat.ne_of_lt (Nat.lt_of_lt_of_le hi Kw7.size)))
  refine hK.out _ _ (Kw8) (fun hH => ?_)
  clear hK K
  refine wpAnyH_take_at (i := 7) 57 (.bool true) rfl rfl (by kernel_rfl) (by kernel_rfl) (by kernel_rfl) (fun _ _ _ h => h) (.inl ⟨by kernel_rfl, fun w9 _ => by go_simp⟩) hH ?_
  simp only [List.setIfInBounds_toArray, List.set_cons_zero, List.set_cons_succ]
  refine wpAnyH_take_at (i := 8) 58 (.bool true) rfl rfl (by kernel_rfl) (by kernel_rfl) (by kernel_rfl) (fun _ _ _ h => h) (.inl ⟨by kernel_rfl, fun w9 _ => by go_simp⟩) hH ?_
  simp only [List.setIfInBounds_toArray, List.set_cons_zero, List.set_cons_succ]
  refine wpAnyH_take_at (i := 9) 59 (.int .i64 0) rfl rfl (by kernel_rfl) (by kernel_rfl) (by kernel_rfl) (fun _ _ _ h => h) (.inl ⟨by kernel_rfl, fun w9 _ => by go_simp⟩) hH ?_
  simp only [List.setIfInBounds_toArray, List.set_cons_zero, List.set_cons_succ]
  refine wpAnyH_take_at (i := 10) 60 (.bool true) rfl rfl (by kernel_rfl) (by kernel_rfl) (by kernel_rfl) (fun _ _ _ h => h) (.inl ⟨by kernel_rfl, fun w9 _ => by go_simp⟩) hH ?_
  simp only [List.setIfInBounds_toArray, List.set_cons_zero, List.set_cons_succ]
  refine wpAnyH_take_at (i := 11) 61 (.bool true) rfl rfl (by kernel_rfl) (by kernel_rfl) (by kernel_rfl) (fun _ _ _ h => h) (.inl ⟨by kernel_rfl, fun w9 _ => by go_simp⟩) hH ?_
  simp only [List.setIfInBounds_toArray, List.set_cons_zero, List.set_cons_succ]
  refine wpAnyH_take_at (i := 12) 62 (.bool true) rfl rfl (by kernel_rfl) (by kernel_rfl) (by kernel_rfl) (fun _ _ _ h => h) (.inl ⟨by kernel_rfl, fun w9 _ => by go_simp⟩) hH ?_
  simp only [List.setIfInBounds_toArray, List.set_cons_zero, List.set_cons_succ]
  refine wpAnyH_take_at (i := 13) 63 (.string sx) rfl rfl (by kernel_rfl) (by kernel_rfl) (by kernel_rfl) (fun _ _ _ h => h) (.inl ⟨by kernel_rfl, fun w9 _ => by go_simp⟩) hH ?_
  simp only [List.setIfInBounds_toArray, List.set_cons_zero, List.set_cons_succ]
  refine wpAnyH_take_at (i := 14) 64 (.string sx) rfl rfl (by kernel_rfl) (by kernel_rfl) (by kernel_rfl) (fun _ _ _ h => h) (.inl ⟨by kernel_rfl, fun w9 _ => by go_simp⟩) hH ?_
  simp only [List.setIfInBounds_toArray, List.set_cons_zero, List.set_cons_succ]
  refine wpAnyH_take_at (i := 15) 65 (.bool true) rfl rfl (by kernel_rfl) (by kernel_rfl) (by kernel_rfl) (fun _ _ _ h => h) (.inl ⟨by kernel_rfl, fun w9 _ => by go_simp⟩) hH ?_
  simp only [List.setIfInBounds_toArray, List.set_cons_zero, List.set_cons_succ]
  refine wpAnyH_take_at (i := 16) 66 (.bool true) rfl rfl (by kernel_rfl) (by kernel_rfl) (by kernel_rfl) (fun _ _ _ h => h) (.inl ⟨by kernel_rfl, fun w9 _ => by go_simp⟩) hH ?_
  simp only [List.setIfInBounds_toArray, List.set_cons_zero, List.set_cons_succ]
  refine wpAnyH_take_at (i := 17) 8 (.bool true) rfl rfl (by kernel_rfl) (by kernel_rfl) (by kernel_rfl) (fun _ _ _ h => h) (.inl ⟨by kernel_rfl, fun w9 _ => by go_simp⟩) hH ?_
  simp only [List.setIfInBounds_toArray, List.set_cons_zero, List.set_cons_succ]
  refine wpAnyH_done (by kernel_rfl) ?_ _
  refine NoPanic.normal ?_
  go_wp2
  go_ret
  exact ⟨rfl, HK6.out.trans (Kw8.mono HK6.out.size (fun i hi _ => by have := HK6.out.size; omega))⟩

end Go.Proofs.Ytdedookpdnbdiaa
