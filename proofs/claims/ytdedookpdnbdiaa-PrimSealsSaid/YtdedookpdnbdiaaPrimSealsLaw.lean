/-
  The walk of the statement PrimSeals: the seal of any text is the document's, and is opened as it was.
-/
import Derived.Test.YtdedookpdnbdiaaGN
import Derived.Test.YtdedookpdnbdiaaGO

namespace Go.Proofs.Ytdedookpdnbdiaa
open Go.RowKit Go.Lib

set_option maxRecDepth 100000 in
set_option maxHeartbeats 3200000 in
theorem primseals_walk (a : List UInt8) (ha : a.length = 32) (ab : ByteArray) (s : List UInt8) (w : World) : Calls Try.prog 5 #[.agg (bcells a).toArray, .string ab, .string (str s)] w fun e w' => e = .returned (.bool true) ∧ Kept w.heap.size w.heap.size w w' := by
  have hsz : (str s).size = s.length := str_size s
  have cnone := fun (h : 65536 < (str s).size) w => seal_none a ab s (by omega) none (.slice none 0 0) w
  have cseal := fun (h : (str s).size ≤ 65536) (h1 : ab.size < 268435456) w => seal_nil a (Lib.hid ha) ab (Lib.hid h1) s (Lib.hid (by omega)) w
  have copen : (str s).size ≤ 65536 → ab.size < 268435456 → ∀ w, Calls Try.prog 35 #[.agg (bcells a).toArray, .string ab, .string (str (Pm.sealed a ab.data.toList s))] w fun e w' => e = .returned (.tuple #[.string (str s), .int .i64 0]) ∧ Kept w.heap.size w.heap.size w w' := fun h h1 w => by
    have := open_calls a (Lib.hid ha) ab (Lib.hid h1) (Pm.sealed a ab.data.toList s) (by rw [Pm.sealed_length]; omega) w
    rw [Pm.opened_sealed a ab.data.toList s (by omega)] at this
    exact this
  have cref := fun (h : (str s).size ≤ 3000) (h1 : ab.size ≤ 3000) w => refseal_calls a (Lib.hid ha) ab (Lib.hid h1) s (Lib.hid (by omega)) w
  have hai := keyInfo ha
  generalize str (Pm.sealed a ab.data.toList s) = ssl at cseal copen cref
  generalize str s = sx at cnone cseal copen cref ⊢
  generalize (bcells a).toArray = ka at cnone cseal copen cref hai ⊢
  have CNONE := Lib.hid cnone
  have CSEAL := Lib.hid cseal
  have COPEN := Lib.hid copen
  have CREF := Lib.hid cref
  have HAI := Lib.hid hai
  clear cnone cseal copen cref hai hsz
  have haw := fun w => prim_awake w
  have HAW := Lib.hid haw
  clear haw
  go_enter Try.func5, Try.ntmps5
  go_upto_region 1 with fail
  have hA : (w.alloc (.cells ka 34)).heap[w.heap.size]? = some (.cells ka 34 (0, 0)) := heap_new _ _
  have k1 : Kept w.heap.size w.heap.size w (w.alloc (.cells ka 34)) := (Kept.refl _ _ _).alloc (Nat.le_refl _) _
  generalize w.alloc (.cells ka 34) = w1 at hA k1 ⊢
  obtain ⟨wa, hwa⟩ : ∃ wa, wa = w.heap.size := ⟨_, rfl⟩
  rw [← hwa] at hA ⊢
  have R1 := Lib.hid hA
  have HK1 := Lib.hid k1
  clear hwa k1 hA
  refine wp_region_lit ?_
  refine @BigFrame.wpList_want _ _ _ _ _ _ _ ?hwa0 ?_
  case hwa0 => kernel_rfl
  intro K hK
  go_simp
  go_at_call 20; refine (HAW.out _).mono ?_; rintro e w2 ⟨rfl, k2⟩
  refine hK _ _ ?_
  clear hK K
  refine @BigFrame.wpList_want _ _ _ _ _ _ _ ?hwb00 ?_
  case hwb00 => kernel_rfl
  intro K hK
  go_simp
  refine hK _ _ ?_
  clear hK K
  refine @BigFrame.wpList_want _ _ _ _ _ _ _ ?hwb01 ?_
  case hwb01 => kernel_rfl
  intro K hK
  go_simp
  refine hK _ _ ?_
  clear hK K
  refine @BigFrame.wpList_want _ _ _ _ _ _ _ ?hwb02 ?_
  case hwb02 => kernel_rfl
  intro K hK
  go_simp
  refine hK _ _ ?_
  clear hK K
  refine @BigFrame.wpList_want _ _ _ _ _ _ _ ?hwb03 ?_
  case hwb03 => kernel_rfl
  intro K hK
  go_simp
  refine hK _ _ ?_
  clear hK K
  by_cases hz : 3000 < ab.size
  · have hd : decide ((3000 : Int) < (ab.size : Int)) = true := decide_eq_true (by omega)
    refine @BigFrame.wpList_want _ _ _ _ _ _ _ ?hwc00 ?_
    case hwc00 => kernel_rfl
    intro K hK
    go_simp
    refine hK _ _ ?_
    clear hK K
    refine @BigFrame.wpList_want _ _ _ _ _ _ _ ?hwc01 ?_
    case hwc01 => kernel_rfl
    intro K hK
    go_simp
    refine hK _ _ ?_
    clear hK K
    refine @BigFrame.wpList_want _ _ _ _ _ _ _ ?hwc02 ?_
    case hwc02 => kernel_rfl
    intro K hK
    go_simp
    refine hK _ _ ?_
    clear hK K
    refine @wpList_skip _ _ _ _ _ _ _ ?hwd00 ?_
    case hwd00 => kernel_rfl
    simp only [Act.put, List.setIfInBounds_toArray, List.set_cons_zero, List.set_cons_succ]
    refine @wpList_skip _ _ _ _ _ _ _ ?hwd01 ?_
    case hwd01 => kernel_rfl
    simp only [Act.put, List.setIfInBounds_toArray, List.set_cons_zero, List.set_cons_succ]
    refine @wpList_skip _ _ _ _ _ _ _ ?hwd02 ?_
    case hwd02 => kernel_rfl
    simp only [Act.put, List.setIfInBounds_toArray, List.set_cons_zero, List.set_cons_succ]
    refine @wpList_skip _ _ _ _ _ _ _ ?hwd03 ?_
    case hwd03 => kernel_rfl
    simp only [Act.put, List.setIfInBounds_toArray, List.set_cons_zero, List.set_cons_succ]
    refine @wpList_skip _ _ _ _ _ _ _ ?hwd04 ?_
    case hwd04 => kernel_rfl
    simp only [Act.put, List.setIfInBounds_toArray, List.set_cons_zero, List.set_cons_succ]
    refine @wpList_skip _ _ _ _ _ _ _ ?hwd05 ?_
    case hwd05 => kernel_rfl
    simp only [Act.put, List.setIfInBounds_toArray, List.set_cons_zero, List.set_cons_succ]
    refine @wpList_skip _ _ _ _ _ _ _ ?hwd06 ?_
    case hwd06 => kernel_rfl
    simp only [Act.put, List.setIfInBounds_toArray, List.set_cons_zero, List.set_cons_succ]
    refine @wpList_skip _ _ _ _ _ _ _ ?hwd07 ?_
    case hwd07 => kernel_rfl
    simp only [Act.put, List.setIfInBounds_toArray, List.set_cons_zero, List.set_cons_succ]
    refine @BigFrame.wpList_want _ _ _ _ _ _ _ ?hwd9 ?_
    case hwd9 => kernel_rfl
    intro K hK
    go_simp
    refine hK _ _ ?_
    clear hK K
    go_wp2_with (go_at_call 20; refine (HAW.out _).mono ?_; rintro e w3 ⟨rfl, k3⟩)
    go_ret
    exact ⟨rfl, HK1.out.trans ((k2.trans (k3.mono k2.size (fun i hi _ => Nat.ne_of_lt (Nat.lt_of_lt_of_le hi k2.size)))).mono HK1.out.size (fun i hi _ => by have := HK1.out.size; omega))⟩
  have hd : decide ((3000 : Int) < (ab.size : Int)) = false := decide_eq_false (by omega)
  refine @BigFrame.wpList_want _ _ _ _ _ _ _ ?hwe00 ?_
  case hwe00 => kernel_rfl
  intro K hK
  go_simp
  refine hK _ _ ?_
  clear hK K
  refine @BigFrame.wpList_want _ _ _ _ _ _ _ ?hwe01 ?_
  case hwe01 => kernel_rfl
  intro K hK
  go_simp
  refine hK _ _ ?_
  clear hK K
  refine @BigFrame.wpList_want _ _ _ _ _ _ _ ?hwe02 ?_
  case hwe02 => kernel_rfl
  intro K hK
  go_simp
  refine hK _ _ ?_
  clear hK K
  refine @BigFrame.wpList_want _ _ _ _ _ _ _ ?hwe03 ?_
  case hwe03 => kernel_rfl
  intro K hK
  go_simp
  refine hK _ _ ?_
  clear hK K
  refine @BigFrame.wpList_want _ _ _ _ _ _ _ ?hwe04 ?_
  case hwe04 => kernel_rfl
  intro K hK
  go_simp
  refine hK _ _ ?_
  clear hK K
  by_cases hy : 3000 < sx.size
  · have hd2 : decide ((3000 : Int) < (sx.size : Int)) = true := decide_eq_true (by omega)
    refine @BigFrame.wpList_want _ _ _ _ _ _ _ ?hwf00 ?_
    case hwf00 => kernel_rfl
    intro K hK
    go_simp
    refine hK _ _ ?_
    clear hK K
    refine @BigFrame.wpList_want _ _ _ _ _ _ _ ?hwf01 ?_
    case hwf01 => kernel_rfl
    intro K hK
    go_simp
    refine hK _ _ ?_
    clear hK K
    refine @BigFrame.wpList_want _ _ _ _ _ _ _ ?hwf02 ?_
    case hwf02 => kernel_rfl
    intro K hK
    go_simp
    refine hK _ _ ?_
    clear hK K
    refine @BigFrame.wpList_want _ _ _ _ _ _ _ ?hwf03 ?_
    case hwf03 => kernel_rfl
    intro K hK
    go_simp
    refine hK _ _ ?_
    clear hK K
    by_cases hx : sx.size ≤ 65536
    · have hd3 : decide ((sx.size : Int) ≤ (65536 : Int)) = true := decide_eq_true (by omega)
      refine @BigFrame.wpList_want _ _ _ _ _ _ _ ?hwg00 ?_
      case hwg00 => kernel_rfl
      intro K hK
      go_simp
      refine hK _ _ ?_
      clear hK K
      refine @BigFrame.wpList_want _ _ _ _ _ _ _ ?hwg01 ?_
      case hwg01 => kernel_rfl
      intro K hK
      go_simp
      refine hK _ _ ?_
      clear hK K
      refine @BigFrame.wpList_want _ _ _ _ _ _ _ ?hwg02 ?_
      case hwg02 => kernel_rfl
      intro K hK
      go_simp
      refine hK _ _ ?_
      clear hK K
      go_wp2_with (go_at_call 20; refine (HAW.out _).mono ?_; rintro e w3 ⟨rfl, k3⟩)
      go_ret
      exact ⟨rfl, HK1.out.trans ((k2.trans (k3.mono k2.size (fun i hi _ => Nat.ne_of_lt (Nat.lt_of_lt_of_le hi k2.size)))).mono HK1.out.size (fun i hi _ => by have := HK1.out.size; omega))⟩
    have hd3 : decide ((sx.size : Int) ≤ (65536 : Int)) = false := decide_eq_false (by omega)
    refine @BigFrame.wpList_want _ _ _ _ _ _ _ ?hwh00 ?_
    case hwh00 => kernel_rfl
    intro K hK
    go_simp
    refine hK _ _ ?_
    clear hK K
    refine @BigFrame.wpList_want _ _ _ _ _ _ _ ?hwh01 ?_
    case hwh01 => kernel_rfl
    intro K hK
    go_simp
    refine hK _ _ ?_
    clear hK K
    refine @BigFrame.wpList_want _ _ _ _ _ _ _ ?hwh02 ?_
    case hwh02 => kernel_rfl
    intro K hK
    go_simp
    refine hK _ _ ?_
    clear hK K
    have hd4 : decide ((65536 : Int) < (sx.size : Int)) = true := decide_eq_true (by omega)
    have CN := Lib.hid (CNONE.out (by omega))
    clear CNONE CSEAL COPEN CREF
    have qk2 := (k2.block _ (lt_of_block R1.out) (Nat.ne_of_lt (lt_of_block R1.out))).trans R1.out
    go_upto_region 3 with fail
    refine wp_region_lit ?_
    refine wpList_load_row_g ?hwl0 34 _ rfl (wa) rfl 34 ka (0, 0) _ (qk2) Try.underlying34 rfl HAI.out ?_
    case hwl0 => kernel_rfl
    simp only [Act.put, List.setIfInBounds_toArray, List.set_cons_zero, List.set_cons_succ]
    refine @BigFrame.wpList_want _ _ _ _ _ _ _ ?hwl1 ?_
    case hwl1 => kernel_rfl
    intro K hK
    go_simp
    refine hK _ _ ?_
    clear hK K
    refine @BigFrame.wpList_want _ _ _ _ _ _ _ ?hwl2 ?_
    case hwl2 => kernel_rfl
    intro K hK
    go_simp
    refine hK _ _ ?_
    clear hK K
    refine @BigFrame.wpList_want _ _ _ _ _ _ _ ?hwl3 ?_
    case hwl3 => kernel_rfl
    intro K hK
    go_simp
    go_at_call 34; refine (CN.out _).mono ?_; rintro e w3 ⟨rfl, kw3⟩
    refine hK _ _ ?_
    clear hK K
    have Kw3 : Kept w1.heap.size w1.heap.size w1 w3 := k2.trans (kw3.mono k2.size (fun i hi _ => Nat.ne_of_lt (Nat.lt_of_lt_of_le hi k2.size)))
    go_wp2
    go_ret
    exact ⟨rfl, HK1.out.trans (Kw3.mono HK1.out.size (fun i hi _ => by have := HK1.out.size; omega))⟩
  have hd2 : decide ((3000 : Int) < (sx.size : Int)) = false := decide_eq_false (by omega)
  refine @BigFrame.wpList_want _ _ _ _ _ _ _ ?hwi00 ?_
  case hwi00 => kernel_rfl
  intro K hK
  go_simp
  refine hK _ _ ?_
  clear hK K
  refine @BigFrame.wpList_want _ _ _ _ _ _ _ ?hwi01 ?_
  case hwi01 => kernel_rfl
  intro K hK
  go_simp
  refine hK _ _ ?_
  clear hK K
  refine @wpList_skip _ _ _ _ _ _ _ ?hwj00 ?_
  case hwj00 => kernel_rfl
  simp only [Act.put, List.setIfInBounds_toArray, List.set_cons_zero, List.set_cons_succ]
  refine @wpList_skip _ _ _ _ _ _ _ ?hwj01 ?_
  case hwj01 => kernel_rfl
  simp only [Act.put, List.setIfInBounds_toArray, List.set_cons_zero, List.set_cons_succ]
  refine @wpList_skip _ _ _ _ _ _ _ ?hwj02 ?_
  case hwj02 => kernel_rfl
  simp only [Act.put, List.setIfInBounds_toArray, List.set_cons_zero, List.set_cons_succ]
  refine @BigFrame.wpList_want _ _ _ _ _ _ _ ?hwk00 ?_
  case hwk00 => kernel_rfl
  intro K hK
  go_simp
  refine hK _ _ ?_
  clear hK K
  refine @BigFrame.wpList_want _ _ _ _ _ _ _ ?hwk01 ?_
  case hwk01 => kernel_rfl
  intro K hK
  go_simp
  refine hK _ _ ?_
  clear hK K
  have hd4 : decide ((65536 : Int) < (sx.size : Int)) = false := decide_eq_false (by omega)
  have CS := Lib.hid (CSEAL.out (by omega) (by omega))
  have CO := Lib.hid (COPEN.out (by omega) (by omega))
  have CR := Lib.hid (CREF.out (by omega) (by omega))
  clear CNONE CSEAL COPEN CREF
  have qk2 := (k2.block _ (lt_of_block R1.out) (Nat.ne_of_lt (lt_of_block R1.out))).trans R1.out
  go_upto_region 3 with fail
  refine wp_region_lit ?_
  refine wpList_load_row_g ?hwm0 34 _ rfl (wa) rfl 34 ka (0, 0) _ (qk2) Try.underlying34 rfl HAI.out ?_
  case hwm0 => kernel_rfl
  simp only [Act.put, List.setIfInBounds_toArray, List.set_cons_zero, List.set_cons_succ]
  refine @BigFrame.wpList_want _ _ _ _ _ _ _ ?hwm1 ?_
  case hwm1 => kernel_rfl
  intro K hK
  go_simp
  refine hK _ _ ?_
  clear hK K
  refine @BigFrame.wpList_want _ _ _ _ _ _ _ ?hwm2 ?_
  case hwm2 => kernel_rfl
  intro K hK
  go_simp
  refine hK _ _ ?_
  clear hK K
  refine @BigFrame.wpList_want _ _ _ _ _ _ _ ?hwm3 ?_
  case hwm3 => kernel_rfl
  intro K hK
  go_simp
  go_at_call 34; refine (CS.out _).mono ?_; rintro e w3 ⟨rfl, kw3⟩
  refine hK _ _ ?_
  clear hK K
  have Kw3 : Kept w1.heap.size w1.heap.size w1 w3 := k2.trans (kw3.mono k2.size (fun i hi _ => Nat.ne_of_lt (Nat.lt_of_lt_of_le hi k2.size)))
  have qw3 := (Kw3.block _ (lt_of_block R1.out) (Nat.ne_of_lt (lt_of_block R1.out))).trans R1.out
  go_upto_region 6 with fail
  refine wp_region_lit ?_
  refine wpList_load_row_g ?hwn0 34 _ rfl (wa) rfl 34 ka (0, 0) _ (qw3) Try.underlying34 rfl HAI.out ?_
  case hwn0 => kernel_rfl
  simp only [Act.put, List.setIfInBounds_toArray, List.set_cons_zero, List.set_cons_succ]
  refine @BigFrame.wpList_want _ _ _ _ _ _ _ ?hwn1 ?_
  case hwn1 => kernel_rfl
  intro K hK
  go_simp
  refine hK _ _ ?_
  clear hK K
  refine @BigFrame.wpList_want _ _ _ _ _ _ _ ?hwn2 ?_
  case hwn2 => kernel_rfl
  intro K hK
  go_simp
  refine hK _ _ ?_
  clear hK K
  refine @BigFrame.wpList_want _ _ _ _ _ _ _ ?hwn3 ?_
  case hwn3 => kernel_rfl
  intro K hK
  go_simp
  go_at_call 35; refine (CO.out _).mono ?_; rintro e w4 ⟨rfl, kw4⟩
  refine hK _ _ ?_
  clear hK K
  have Kw4 : Kept w1.heap.size w1.heap.size w1 w4 := Kw3.trans (kw4.mono Kw3.size (fun i hi _ => Nat.ne_of_lt (Nat.lt_of_lt_of_le hi Kw3.size)))
  have qw4 := (Kw4.block _ (lt_of_block R1.out) (Nat.ne_of_lt (lt_of_block R1.out))).trans R1.out
  go_upto_region 7 with fail
  refine wp_region_lit ?_
  refine @BigFrame.wpList_want _ _ _ _ _ _ _ ?hwo0 ?_
  case hwo0 => kernel_rfl
  intro K hK
  go_simp
  refine hK _ _ ?_
  clear hK K
  refine wpList_load_row_g ?hwo1 34 _ rfl (wa) rfl 34 ka (0, 0) _ (qw4) Try.underlying34 rfl HAI.out ?_
  case hwo1 => kernel_rfl
  simp only [Act.put, List.setIfInBounds_toArray, List.set_cons_zero, List.set_cons_succ]
  refine @BigFrame.wpList_want _ _ _ _ _ _ _ ?hwo2 ?_
  case hwo2 => kernel_rfl
  intro K hK
  go_simp
  refine hK _ _ ?_
  clear hK K
  refine @BigFrame.wpList_want _ _ _ _ _ _ _ ?hwo3 ?_
  case hwo3 => kernel_rfl
  intro K hK
  go_simp
  refine hK _ _ ?_
  clear hK K
  refine @BigFrame.wpList_want _ _ _ _ _ _ _ ?hwo4 ?_
  case hwo4 => kernel_rfl
  intro K hK
  go_simp
  go_at_call 36; refine (CR.out _).mono ?_; rintro e w5 ⟨rfl, kw5⟩
  refine hK _ _ ?_
  clear hK K
  have Kw5 : Kept w1.heap.size w1.heap.size w1 w5 := Kw4.trans (kw5.mono Kw4.size (fun i hi _ => Nat.ne_of_lt (Nat.lt_of_lt_of_le hi Kw4.size)))
  refine @BigFrame.wpList_want _ _ _ _ _ _ _ ?hwp00 ?_
  case hwp00 => kernel_rfl
  intro K hK
  go_simp
  refine hK _ _ ?_
  clear hK K
  refine @BigFrame.wpList_want _ _ _ _ _ _ _ ?hwp01 ?_
  case hwp01 => kernel_rfl
  intro K hK
  go_simp
  refine hK _ _ ?_
  clear hK K
  refine @BigFrame.wpList_want _ _ _ _ _ _ _ ?hwp02 ?_
  case hwp02 => kernel_rfl
  intro K hK
  go_simp
  refine hK _ _ ?_
  clear hK K
  refine @BigFrame.wpList_want _ _ _ _ _ _ _ ?hwp03 ?_
  case hwp03 => kernel_rfl
  intro K hK
  go_simp
  refine hK _ _ ?_
  clear hK K
  refine @BigFrame.wpList_want _ _ _ _ _ _ _ ?hwp04 ?_
  case hwp04 => kernel_rfl
  intro K hK
  go_simp
  refine hK _ _ ?_
  clear hK K
  refine @BigFrame.wpList_want _ _ _ _ _ _ _ ?hwp05 ?_
  case hwp05 => kernel_rfl
  intro K hK
  go_simp
  refine hK _ _ ?_
  clear hK K
  refine @BigFrame.wpList_want _ _ _ _ _ _ _ ?hwp06 ?_
  case hwp06 => kernel_rfl
  intro K hK
  go_simp
  refine hK _ _ ?_
  clear hK K
  refine @BigFrame.wpList_want _ _ _ _ _ _ _ ?hwp07 ?_
  case hwp07 => kernel_rfl
  intro K hK
  go_simp
  refine hK _ _ ?_
  clear hK K
  refine @BigFrame.wpList_want _ _ _ _ _ _ _ ?hwp08 ?_
  case hwp08 => kernel_rfl
  intro K hK
  go_simp
  refine hK _ _ ?_
  clear hK K
  refine @BigFrame.wpList_want _ _ _ _ _ _ _ ?hwp09 ?_
  case hwp09 => kernel_rfl
  intro K hK
  go_simp
  refine hK _ _ ?_
  clear hK K
  go_wp2
  go_ret
  exact ⟨rfl, HK1.out.trans (Kw5.mono HK1.out.size (fun i hi _ => by have := HK1.out.size; omega))⟩

end Go.Proofs.Ytdedookpdnbdiaa
