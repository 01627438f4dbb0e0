/-
  The walk of the statement PrimOpens: any bytes are opened, or refused, as the document says.
-/
import Derived.Test.YtdedookpdnbdiaaGN
import Derived.Test.YtdedookpdnbdiaaGO

namespace Go.Proofs.Ytdedookpdnbdiaa
open Go.RowKit Go.Lib

set_option maxRecDepth 100000 in
set_option maxHeartbeats 3200000 in
theorem primopens_walk (a : List UInt8) (ha : a.length = 32) (ab : ByteArray) (s : List UInt8) (hbig : (str s).size ≤ 281474976710656) (w : World) : Calls Try.prog 6 #[.agg (bcells a).toArray, .string ab, .string (str s)] w fun e w' => e = .returned (.bool true) ∧ Kept w.heap.size w.heap.size w w' := by
  have hsz : (str s).size = s.length := str_size s
  have clong : 65584 < (str s).size → ab.size < 268435456 → ∀ w, Calls Try.prog 35 #[.agg (bcells a).toArray, .string ab, .string (str s)] w fun e w' => e = .returned (.tuple #[.string ⟨#[]⟩, .int .i64 5]) ∧ Kept w.heap.size w.heap.size w w' := fun h h1 w => by
    have := open_calls a (Lib.hid ha) ab (Lib.hid h1) s (by omega) w
    rw [Pm.opened, if_neg (by omega), if_pos (by omega)] at this
    exact this
  have ulong : 65584 < (str s).size → ab.size < 268435456 → ∀ w, Calls Try.prog 37 #[.agg (bcells a).toArray, .string ab, .string (str s)] w fun e w' => e = .returned (.tuple #[.string ⟨#[]⟩, .int .i64 5]) ∧ Kept w.heap.size w.heap.size w w' := fun h h1 w => by
    have := unwrap_calls a (Lib.hid ha) ab (Lib.hid h1) s (by omega) w
    have hdl : (s.drop 32).length = s.length - 32 := List.length_drop
    rw [Pm.unwrapped, if_neg (by omega), Pm.opened, if_neg (by omega), if_pos (by omega)] at this
    exact this
  have copen := fun (h : (str s).size ≤ 3000) (h1 : ab.size < 268435456) w => open_calls a (Lib.hid ha) ab (Lib.hid h1) s (by omega) w
  have uopen := fun (h : (str s).size ≤ 3000) (h1 : ab.size < 268435456) w => unwrap_calls a (Lib.hid ha) ab (Lib.hid h1) s (by omega) w
  have cref := fun (h : (str s).size ≤ 3000) (h1 : ab.size ≤ 3000) w => refopen_calls a (Lib.hid ha) ab (Lib.hid h1) s (Lib.hid (by omega)) w
  have uref := fun (h : (str s).size ≤ 3000) (h1 : ab.size ≤ 3000) w => refunwrap_calls a (Lib.hid ha) ab (Lib.hid h1) s (Lib.hid (by omega)) w
  have hai := keyInfo ha
  generalize str (Pm.opened a ab.data.toList s).1 = ot at copen cref
  generalize ((Pm.opened a ab.data.toList s).2 : Int) = oe at copen cref
  generalize str (Pm.unwrapped a ab.data.toList s).1 = ut at uopen uref
  generalize ((Pm.unwrapped a ab.data.toList s).2 : Int) = ue at uopen uref
  generalize str s = sx at clong ulong copen uopen cref uref ⊢
  generalize (bcells a).toArray = ka at clong ulong copen uopen cref uref hai ⊢
  have CLONG := Lib.hid clong
  have ULONG := Lib.hid ulong
  have COPEN := Lib.hid copen
  have UOPEN := Lib.hid uopen
  have CREF := Lib.hid cref
  have UREF := Lib.hid uref
  have HAI := Lib.hid hai
  clear clong ulong copen uopen cref uref hai hsz hbig
  have haw := fun w => prim_awake w
  have HAW := Lib.hid haw
  clear haw
  go_enter Try.func6, Try.ntmps6
  go_upto_region 1 with fail
  have hA : (w.alloc (.cells ka 34)).heap[w.heap.size]? = some (.cells ka 34 (0, 0)) := heap_new _ _
  have k1 : Kept w.heap.size w.heap.size w (w.alloc (.cells ka 34)) := (Kept.refl _ _ _).alloc (Nat.le_refl _) _
  generalize w.alloc (.cells ka 34) = w1 at hA k1 ⊢
  obtain ⟨wa, hwa⟩ : ∃ wa, wa = w.heap.size := ⟨_, rfl⟩
  rw [← hwa] at hA ⊢
  have R1 := Lib.hid hA
  have HK1 := Lib.hid k1
  clear hwa k1 hA
  refine wp_region_lit ?_
  refine @BigFrame.wpList_want _ _ _ _ _ _ _ ?hwa0 ?_
  case hwa0 => kernel_rfl
  intro K hK
  go_simp
  go_at_call 20; refine (HAW.out _).mono ?_; rintro e w2 ⟨rfl, k2⟩
  refine hK _ _ ?_
  clear hK K
  refine @BigFrame.wpList_want _ _ _ _ _ _ _ ?hwb00 ?_
  case hwb00 => kernel_rfl
  intro K hK
  go_simp
  refine hK _ _ ?_
  clear hK K
  refine @BigFrame.wpList_want _ _ _ _ _ _ _ ?hwb01 ?_
  case hwb01 => kernel_rfl
  intro K hK
  go_simp
  refine hK _ _ ?_
  clear hK K
  refine @BigFrame.wpList_want _ _ _ _ _ _ _ ?hwb02 ?_
  case hwb02 => kernel_rfl
  intro K hK
  go_simp
  refine hK _ _ ?_
  clear hK K
  refine @BigFrame.wpList_want _ _ _ _ _ _ _ ?hwb03 ?_
  case hwb03 => kernel_rfl
  intro K hK
  go_simp
  refine hK _ _ ?_
  clear hK K
  by_cases hz : 3000 < ab.size
  · have hd : decide ((3000 : Int) < (ab.size : Int)) = true := decide_eq_true (by omega)
    refine @BigFrame.wpList_want _ _ _ _ _ _ _ ?hwc00 ?_
    case hwc00 => kernel_rfl
    intro K hK
    go_simp
    refine hK _ _ ?_
    clear hK K
    refine @BigFrame.wpList_want _ _ _ _ _ _ _ ?hwc01 ?_
    case hwc01 => kernel_rfl
    intro K hK
    go_simp
    refine hK _ _ ?_
    clear hK K
    refine @BigFrame.wpList_want _ _ _ _ _ _ _ ?hwc02 ?_
    case hwc02 => kernel_rfl
    intro K hK
    go_simp
    refine hK _ _ ?_
    clear hK K
    refine @wpList_skip _ _ _ _ _ _ _ ?hwd00 ?_
    case hwd00 => kernel_rfl
    simp only [Act.put, List.setIfInBounds_toArray, List.set_cons_zero, List.set_cons_succ]
    refine @wpList_skip _ _ _ _ _ _ _ ?hwd01 ?_
    case hwd01 => kernel_rfl
    simp only [Act.put, List.setIfInBounds_toArray, List.set_cons_zero, List.set_cons_succ]
    refine @wpList_skip _ _ _ _ _ _ _ ?hwd02 ?_
    case hwd02 => kernel_rfl
    simp only [Act.put, List.setIfInBounds_toArray, List.set_cons_zero, List.set_cons_succ]
    refine @wpList_skip _ _ _ _ _ _ _ ?hwd03 ?_
    case hwd03 => kernel_rfl
    simp only [Act.put, List.setIfInBounds_toArray, List.set_cons_zero, List.set_cons_succ]
    refine @wpList_skip _ _ _ _ _ _ _ ?hwd04 ?_
    case hwd04 => kernel_rfl
    simp only [Act.put, List.setIfInBounds_toArray, List.set_cons_zero, List.set_cons_succ]
    refine @wpList_skip _ _ _ _ _ _ _ ?hwd05 ?_
    case hwd05 => kernel_rfl
    simp only [Act.put, List.setIfInBounds_toArray, List.set_cons_zero, List.set_cons_succ]
    refine @wpList_skip _ _ _ _ _ _ _ ?hwd06 ?_
    case hwd06 => kernel_rfl
    simp only [Act.put, List.setIfInBounds_toArray, List.set_cons_zero, List.set_cons_succ]
    refine @wpList_skip _ _ _ _ _ _ _ ?hwd07 ?_
    case hwd07 => kernel_rfl
    simp only [Act.put, List.setIfInBounds_toArray, List.set_cons_zero, List.set_cons_succ]
    refine @BigFrame.wpList_want _ _ _ _ _ _ _ ?hwd9 ?_
    case hwd9 => kernel_rfl
    intro K hK
    go_simp
    refine hK _ _ ?_
    clear hK K
    go_wp2_with (go_at_call 20; refine (HAW.out _).mono ?_; rintro e w3 ⟨rfl, k3⟩)
    go_ret
    exact ⟨rfl, HK1.out.trans ((k2.trans (k3.mono k2.size (fun i hi _ => Nat.ne_of_lt (Nat.lt_of_lt_of_le hi k2.size)))).mono HK1.out.size (fun i hi _ => by have := HK1.out.size; omega))⟩
  have hd : decide ((3000 : Int) < (ab.size : Int)) = false := decide_eq_false (by omega)
  refine @BigFrame.wpList_want _ _ _ _ _ _ _ ?hwe00 ?_
  case hwe00 => kernel_rfl
  intro K hK
  go_simp
  refine hK _ _ ?_
  clear hK K
  refine @BigFrame.wpList_want _ _ _ _ _ _ _ ?hwe01 ?_
  case hwe01 => kernel_rfl
  intro K hK
  go_simp
  refine hK _ _ ?_
  clear hK K
  refine @BigFrame.wpList_want _ _ _ _ _ _ _ ?hwe02 ?_
  case hwe02 => kernel_rfl
  intro K hK
  go_simp
  refine hK _ _ ?_
  clear hK K
  refine @BigFrame.wpList_want _ _ _ _ _ _ _ ?hwe03 ?_
  case hwe03 => kernel_rfl
  intro K hK
  go_simp
  refine hK _ _ ?_
  clear hK K
  refine @BigFrame.wpList_want _ _ _ _ _ _ _ ?hwe04 ?_
  case hwe04 => kernel_rfl
  intro K hK
  go_simp
  refine hK _ _ ?_
  clear hK K
  by_cases hy : 3000 < sx.size
  · have hd2 : decide ((3000 : Int) < (sx.size : Int)) = true := decide_eq_true (by omega)
    refine @BigFrame.wpList_want _ _ _ _ _ _ _ ?hwf00 ?_
    case hwf00 => kernel_rfl
    intro K hK
    go_simp
    refine hK _ _ ?_
    clear hK K
    refine @BigFrame.wpList_want _ _ _ _ _ _ _ ?hwf01 ?_
    case hwf01 => kernel_rfl
    intro K hK
    go_simp
    refine hK _ _ ?_
    clear hK K
    refine @BigFrame.wpList_want _ _ _ _ _ _ _ ?hwf02 ?_
    case hwf02 => kernel_rfl
    intro K hK
    go_simp
    refine hK _ _ ?_
    clear hK K
    refine @BigFrame.wpList_want _ _ _ _ _ _ _ ?hwf03 ?_
    case hwf03 => kernel_rfl
    intro K hK
    go_simp
    refine hK _ _ ?_
    clear hK K
    by_cases hx : sx.size ≤ 65584
    · have hd3 : decide ((sx.size : Int) ≤ (65584 : Int)) = true := decide_eq_true (by omega)
      refine @BigFrame.wpList_want _ _ _ _ _ _ _ ?hwg00 ?_
      case hwg00 => kernel_rfl
      intro K hK
      go_simp
      refine hK _ _ ?_
      clear hK K
      refine @BigFrame.wpList_want _ _ _ _ _ _ _ ?hwg01 ?_
      case hwg01 => kernel_rfl
      intro K hK
      go_simp
      refine hK _ _ ?_
      clear hK K
      refine @BigFrame.wpList_want _ _ _ _ _ _ _ ?hwg02 ?_
      case hwg02 => kernel_rfl
      intro K hK
      go_simp
      refine hK _ _ ?_
      clear hK K
      go_wp2_with (go_at_call 20; refine (HAW.out _).mono ?_; rintro e w3 ⟨rfl, k3⟩)
      go_ret
      exact ⟨rfl, HK1.out.trans ((k2.trans (k3.mono k2.size (fun i hi _ => Nat.ne_of_lt (Nat.lt_of_lt_of_le hi k2.size)))).mono HK1.out.size (fun i hi _ => by have := HK1.out.size; omega))⟩
    have hd3 : decide ((sx.size : Int) ≤ (65584 : Int)) = false := decide_eq_false (by omega)
    refine @BigFrame.wpList_want _ _ _ _ _ _ _ ?hwh00 ?_
    case hwh00 => kernel_rfl
    intro K hK
    go_simp
    refine hK _ _ ?_
    clear hK K
    refine @BigFrame.wpList_want _ _ _ _ _ _ _ ?hwh01 ?_
    case hwh01 => kernel_rfl
    intro K hK
    go_simp
    refine hK _ _ ?_
    clear hK K
    refine @BigFrame.wpList_want _ _ _ _ _ _ _ ?hwh02 ?_
    case hwh02 => kernel_rfl
    intro K hK
    go_simp
    refine hK _ _ ?_
    clear hK K
    have hd4 : decide ((65584 : Int) < (sx.size : Int)) = true := decide_eq_true (by omega)
    have CO := Lib.hid (CLONG.out (by omega) (by omega))
    have CU := Lib.hid (ULONG.out (by omega) (by omega))
    clear CLONG ULONG COPEN UOPEN CREF UREF
    have qk2 := (k2.block _ (lt_of_block R1.out) (Nat.ne_of_lt (lt_of_block R1.out))).trans R1.out
    go_upto_region 4 with fail
    refine wp_region_lit ?_
    refine wpList_load_row_g ?hwl0 34 _ rfl (wa) rfl 34 ka (0, 0) _ (qk2) Try.underlying34 rfl HAI.out ?_
    case hwl0 => kernel_rfl
    simp only [Act.put, List.setIfInBounds_toArray, List.set_cons_zero, List.set_cons_succ]
    refine @BigFrame.wpList_want _ _ _ _ _ _ _ ?hwl1 ?_
    case hwl1 => kernel_rfl
    intro K hK
    go_simp
    refine hK _ _ ?_
    clear hK K
    refine @BigFrame.wpList_want _ _ _ _ _ _ _ ?hwl2 ?_
    case hwl2 => kernel_rfl
    intro K hK
    go_simp
    refine hK _ _ ?_
    clear hK K
    refine @BigFrame.wpList_want _ _ _ _ _ _ _ ?hwl3 ?_
    case hwl3 => kernel_rfl
    intro K hK
    go_simp
    go_at_call 35; refine (CO.out _).mono ?_; rintro e w3 ⟨rfl, kw3⟩
    refine hK _ _ ?_
    clear hK K
    have Kw3 : Kept w1.heap.size w1.heap.size w1 w3 := k2.trans (kw3.mono k2.size (fun i hi _ => Nat.ne_of_lt (Nat.lt_of_lt_of_le hi k2.size)))
    have qw3 := (Kw3.block _ (lt_of_block R1.out) (Nat.ne_of_lt (lt_of_block R1.out))).trans R1.out
    go_upto_region 5 with fail
    refine wp_region_lit ?_
    refine wpList_load_row_g ?hwm0 34 _ rfl (wa) rfl 34 ka (0, 0) _ (qw3) Try.underlying34 rfl HAI.out ?_
    case hwm0 => kernel_rfl
    simp only [Act.put, List.setIfInBounds_toArray, List.set_cons_zero, List.set_cons_succ]
    refine @BigFrame.wpList_want _ _ _ _ _ _ _ ?hwm1 ?_
    case hwm1 => kernel_rfl
    intro K hK
    go_simp
    refine hK _ _ ?_
    clear hK K
    refine @BigFrame.wpList_want _ _ _ _ _ _ _ ?hwm2 ?_
    case hwm2 => kernel_rfl
    intro K hK
    go_simp
    refine hK _ _ ?_
    clear hK K
    refine @BigFrame.wpList_want _ _ _ _ _ _ _ ?hwm3 ?_
    case hwm3 => kernel_rfl
    intro K hK
    go_simp
    go_at_call 37; refine (CU.out _).mono ?_; rintro e w4 ⟨rfl, kw4⟩
    refine hK _ _ ?_
    clear hK K
    have Kw4 : Kept w1.heap.size w1.heap.size w1 w4 := Kw3.trans (kw4.mono Kw3.size (fun i hi _ => Nat.ne_of_lt (Nat.lt_of_lt_of_le hi Kw3.size)))
    have qw4 := (Kw4.block _ (lt_of_block R1.out) (Nat.ne_of_lt (lt_of_block R1.out))).trans R1.out
    go_upto_region 6 with fail
    refine wp_region_lit ?_
    refine @BigFrame.wpList_want _ _ _ _ _ _ _ ?hwn00 ?_
    case hwn00 => kernel_rfl
    intro K hK
    go_simp
    refine hK _ _ ?_
    clear hK K
    refine @BigFrame.wpList_want _ _ _ _ _ _ _ ?hwn01 ?_
    case hwn01 => kernel_rfl
    intro K hK
    go_simp
    refine hK _ _ ?_
    clear hK K
    refine @BigFrame.wpList_want _ _ _ _ _ _ _ ?hwn02 ?_
    case hwn02 => kernel_rfl
    intro K hK
    go_simp
    refine hK _ _ ?_
    clear hK K
    refine @BigFrame.wpList_want _ _ _ _ _ _ _ ?hwn03 ?_
    case hwn03 => kernel_rfl
    intro K hK
    go_simp
    refine hK _ _ ?_
    clear hK K
    refine @BigFrame.wpList_want _ _ _ _ _ _ _ ?hwn04 ?_
    case hwn04 => kernel_rfl
    intro K hK
    go_simp
    refine hK _ _ ?_
    clear hK K
    refine @BigFrame.wpList_want _ _ _ _ _ _ _ ?hwn05 ?_
    case hwn05 => kernel_rfl
    intro K hK
    go_simp
    refine hK _ _ ?_
    clear hK K
    refine @BigFrame.wpList_want _ _ _ _ _ _ _ ?hwn06 ?_
    case hwn06 => kernel_rfl
    intro K hK
    go_simp
    refine hK _ _ ?_
    clear hK K
    refine @BigFrame.wpList_want _ _ _ _ _ _ _ ?hwn07 ?_
    case hwn07 => kernel_rfl
    intro K hK
    go_simp
    refine hK _ _ ?_
    clear hK K
    refine @BigFrame.wpList_want _ _ _ _ _ _ _ ?hwn08 ?_
    case hwn08 => kernel_rfl
    intro K hK
    go_simp
    refine hK _ _ ?_
    clear hK K
    refine @BigFrame.wpList_want _ _ _ _ _ _ _ ?hwn09 ?_
    case hwn09 => kernel_rfl
    intro K hK
    go_simp
    refine hK _ _ ?_
    clear hK K
    refine @BigFrame.wpList_want _ _ _ _ _ _ _ ?hwn10 ?_
    case hwn10 => kernel_rfl
    intro K hK
    go_simp
    refine hK _ _ ?_
    clear hK K
    refine @BigFrame.wpList_want _ _ _ _ _ _ _ ?hwn11 ?_
    case hwn11 => kernel_rfl
    intro K hK
    go_simp
    refine hK _ _ ?_
    clear hK K
    refine @BigFrame.wpList_want _ _ _ _ _ _ _ ?hwn12 ?_
    case hwn12 => kernel_rfl
    intro K hK
    go_simp
    refine hK _ _ ?_
    clear hK K
    refine @BigFrame.wpList_want _ _ _ _ _ _ _ ?hwn13 ?_
    case hwn13 => kernel_rfl
    intro K hK
    go_simp
    refine hK _ _ ?_
    clear hK K
    go_wp2
    go_ret
    exact ⟨rfl, HK1.out.trans (Kw4.mono HK1.out.size (fun i hi _ => by have := HK1.out.size; omega))⟩
  have hd2 : decide ((3000 : Int) < (sx.size : Int)) = false := decide_eq_false (by omega)
  refine @BigFrame.wpList_want _ _ _ _ _ _ _ ?hwi00 ?_
  case hwi00 => kernel_rfl
  intro K hK
  go_simp
  refine hK _ _ ?_
  clear hK K
  refine @BigFrame.wpList_want _ _ _ _ _ _ _ ?hwi01 ?_
  case hwi01 => kernel_rfl
  intro K hK
  go_simp
  refine hK _ _ ?_
  clear hK K
  refine @wpList_skip _ _ _ _ _ _ _ ?hwj00 ?_
  case hwj00 => kernel_rfl
  simp only [Act.put, List.setIfInBounds_toArray, List.set_cons_zero, List.set_cons_succ]
  refine @wpList_skip _ _ _ _ _ _ _ ?hwj01 ?_
  case hwj01 => kernel_rfl
  simp only [Act.put, List.setIfInBounds_toArray, List.set_cons_zero, List.set_cons_succ]
  refine @wpList_skip _ _ _ _ _ _ _ ?hwj02 ?_
  case hwj02 => kernel_rfl
  simp only [Act.put, List.setIfInBounds_toArray, List.set_cons_zero, List.set_cons_succ]
  refine @BigFrame.wpList_want _ _ _ _ _ _ _ ?hwk00 ?_
  case hwk00 => kernel_rfl
  intro K hK
  go_simp
  refine hK _ _ ?_
  clear hK K
  refine @BigFrame.wpList_want _ _ _ _ _ _ _ ?hwk01 ?_
  case hwk01 => kernel_rfl
  intro K hK
  go_simp
  refine hK _ _ ?_
  clear hK K
  have hd4 : decide ((65584 : Int) < (sx.size : Int)) = false := decide_eq_false (by omega)
  have CO := Lib.hid (COPEN.out (by omega) (by omega))
  have CU := Lib.hid (UOPEN.out (by omega) (by omega))
  have RO := Lib.hid (CREF.out (by omega) (by omega))
  have RU := Lib.hid (UREF.out (by omega) (by omega))
  clear CLONG ULONG COPEN UOPEN CREF UREF
  have qk2 := (k2.block _ (lt_of_block R1.out) (Nat.ne_of_lt (lt_of_block R1.out))).trans R1.out
  go_upto_region 7 with fail
  refine wp_region_lit ?_
  refine wpList_load_row_g ?hwo0 34 _ rfl (wa) rfl 34 ka (0, 0) _ (qk2) Try.underlying34 rfl HAI.out ?_
  case hwo0 => kernel_rfl
  simp only [Act.put, List.setIfInBounds_toArray, List.set_cons_zero, List.set_cons_succ]
  refine @BigFrame.wpList_want _ _ _ _ _ _ _ ?hwo1 ?_
  case hwo1 => kernel_rfl
  intro K hK
  go_simp
  refine hK _ _ ?_
  clear hK K
  refine @BigFrame.wpList_want _ _ _ _ _ _ _ ?hwo2 ?_
  case hwo2 => kernel_rfl
  intro K hK
  go_simp
  refine hK _ _ ?_
  clear hK K
  refine @BigFrame.wpList_want _ _ _ _ _ _ _ ?hwo3 ?_
  case hwo3 => kernel_rfl
  intro K hK
  go_simp
  go_at_call 35; refine (CO.out _).mono ?_; rintro e w3 ⟨rfl, kw3⟩
  refine hK _ _ ?_
  clear hK K
  have Kw3 : Kept w1.heap.size w1.heap.size w1 w3 := k2.trans (kw3.mono k2.size (fun i hi _ => Nat.ne_of_lt (Nat.lt_of_lt_of_le hi k2.size)))
  have qw3 := (Kw3.block _ (lt_of_block R1.out) (Nat.ne_of_lt (lt_of_block R1.out))).trans R1.out
  go_upto_region 8 with fail
  refine wp_region_lit ?_
  refine wpList_load_row_g ?hwp0 34 _ rfl (wa) rfl 34 ka (0, 0) _ (qw3) Try.underlying34 rfl HAI.out ?_
  case hwp0 => kernel_rfl
  simp only [Act.put, List.setIfInBounds_toArray, List.set_cons_zero, List.set_cons_succ]
  refine @BigFrame.wpList_want _ _ _ _ _ _ _ ?hwp1 ?_
  case hwp1 => kernel_rfl
  intro K hK
  go_simp
  refine hK _ _ ?_
  clear hK K
  refine @BigFrame.wpList_want _ _ _ _ _ _ _ ?hwp2 ?_
  case hwp2 => kernel_rfl
  intro K hK
  go_simp
  refine hK _ _ ?_
  clear hK K
  refine @BigFrame.wpList_want _ _ _ _ _ _ _ ?hwp3 ?_
  case hwp3 => kernel_rfl
  intro K hK
  go_simp
  go_at_call 37; refine (CU.out _).mono ?_; rintro e w4 ⟨rfl, kw4⟩
  refine hK _ _ ?_
  clear hK K
  have Kw4 : Kept w1.heap.size w1.heap.size w1 w4 := Kw3.trans (kw4.mono Kw3.size (fun i hi _ => Nat.ne_of_lt (Nat.lt_of_lt_of_le hi Kw3.size)))
  have qw4 := (Kw4.block _ (lt_of_block R1.out) (Nat.ne_of_lt (lt_of_block R1.out))).trans R1.out
  go_upto_region 9 with fail
  refine wp_region_lit ?_
  refine wpList_load_row_g ?hwq0 34 _ rfl (wa) rfl 34 ka (0, 0) _ (qw4) Try.underlying34 rfl HAI.out ?_
  case hwq0 => kernel_rfl
  simp only [Act.put, List.setIfInBounds_toArray, List.set_cons_zero, List.set_cons_succ]
  refine @BigFrame.wpList_want _ _ _ _ _ _ _ ?hwq1 ?_
  case hwq1 => kernel_rfl
  intro K hK
  go_simp
  refine hK _ _ ?_
  clear hK K
  refine @BigFrame.wpList_want _ _ _ _ _ _ _ ?hwq2 ?_
  case hwq2 => kernel_rfl
  intro K hK
  go_simp
  refine hK _ _ ?_
  clear hK K
  refine @BigFrame.wpList_want _ _ _ _ _ _ _ ?hwq3 ?_
  case hwq3 => kernel_rfl
  intro K hK
  go_simp
  go_at_call 38; refine (RO.out _).mono ?_; rintro e w5 ⟨rfl, kw5⟩
  refine hK _ _ ?_
  clear hK K
  have Kw5 : Kept w1.heap.size w1.heap.size w1 w5 := Kw4.trans (kw5.mono Kw4.size (fun i hi _ => Nat.ne_of_lt (Nat.lt_of_lt_of_le hi Kw4.size)))
  have qw5 := (Kw5.block _ (lt_of_block R1.out) (Nat.ne_of_lt (lt_of_block R1.out))).trans R1.out
  go_upto_region 10 with fail
  refine wp_region_lit ?_
  refine wpList_load_row_g ?hwr0 34 _ rfl (wa) rfl 34 ka (0, 0) _ (qw5) Try.underlying34 rfl HAI.out ?_
  case hwr0 => kernel_rfl
  simp only [Act.put, List.setIfInBounds_toArray, List.set_cons_zero, List.set_cons_succ]
  refine @BigFrame.wpList_want _ _ _ _ _ _ _ ?hwr1 ?_
  case hwr1 => kernel_rfl
  intro K hK
  go_simp
  refine hK _ _ ?_
  clear hK K
  refine @BigFrame.wpList_want _ _ _ _ _ _ _ ?hwr2 ?_
  case hwr2 => kernel_rfl
  intro K hK
  go_simp
  refine hK _ _ ?_
  clear hK K
  refine @BigFrame.wpList_want _ _ _ _ _ _ _ ?hwr3 ?_
  case hwr3 => kernel_rfl
  intro K hK
  go_simp
  go_at_call 39; refine (RU.out _).mono ?_; rintro e w6 ⟨rfl, kw6⟩
  refine hK _ _ ?_
  clear hK K
  have Kw6 : Kept w1.heap.size w1.heap.size w1 w6 := Kw5.trans (kw6.mono Kw5.size (fun i hi _ => Nat.ne_of_lt (Nat.lt_of_lt_of_le hi Kw5.size)))
  have qw6 := (Kw6.block _ (lt_of_block R1.out) (Nat.ne_of_lt (lt_of_block R1.out))).trans R1.out
  go_upto_region 11 with fail
  refine wp_region_lit ?_
  refine @BigFrame.wpList_want _ _ _ _ _ _ _ ?hws00 ?_
  case hws00 => kernel_rfl
  intro K hK
  go_simp
  refine hK _ _ ?_
  clear hK K
  refine @BigFrame.wpList_want _ _ _ _ _ _ _ ?hws01 ?_
  case hws01 => kernel_rfl
  intro K hK
  go_simp
  refine hK _ _ ?_
  clear hK K
  refine @BigFrame.wpList_want _ _ _ _ _ _ _ ?hws02 ?_
  case hws02 => kernel_rfl
  intro K hK
  go_simp
  refine hK _ _ ?_
  clear hK K
  refine @BigFrame.wpList_want _ _ _ _ _ _ _ ?hws03 ?_
  case hws03 => kernel_rfl
  intro K hK
  go_simp
  refine hK _ _ ?_
  clear hK K
  refine @BigFrame.wpList_want _ _ _ _ _ _ _ ?hws04 ?_
  case hws04 => kernel_rfl
  intro K hK
  go_simp
  refine hK _ _ ?_
  clear hK K
  refine @BigFrame.wpList_want _ _ _ _ _ _ _ ?hws05 ?_
  case hws05 => kernel_rfl
  intro K hK
  go_simp
  refine hK _ _ ?_
  clear hK K
  refine @BigFrame.wpList_want _ _ _ _ _ _ _ ?hws06 ?_
  case hws06 => kernel_rfl
  intro K hK
  go_simp
  refine hK _ _ ?_
  clear hK K
  refine @BigFrame.wpList_want _ _ _ _ _ _ _ ?hws07 ?_
  case hws07 => kernel_rfl
  intro K hK
  go_simp
  refine hK _ _ ?_
  clear hK K
  refine @BigFrame.wpList_want _ _ _ _ _ _ _ ?hws08 ?_
  case hws08 => kernel_rfl
  intro K hK
  go_simp
  refine hK _ _ ?_
  clear hK K
  refine @BigFrame.wpList_want _ _ _ _ _ _ _ ?hws09 ?_
  case hws09 => kernel_rfl
  intro K hK
  go_simp
  refine hK _ _ ?_
  clear hK K
  refine @BigFrame.wpList_want _ _ _ _ _ _ _ ?hws10 ?_
  case hws10 => kernel_rfl
  intro K hK
  go_simp
  refine hK _ _ ?_
  clear hK K
  refine @BigFrame.wpList_want _ _ _ _ _ _ _ ?hws11 ?_
  case hws11 => kernel_rfl
  intro K hK
  go_simp
  refine hK _ _ ?_
  clear hK K
  refine @BigFrame.wpList_want _ _ _ _ _ _ _ ?hws12 ?_
  case hws12 => kernel_rfl
  intro K hK
  go_simp
  refine hK _ _ ?_
  clear hK K
  refine @BigFrame.wpList_want _ _ _ _ _ _ _ ?hws13 ?_
  case hws13 => kernel_rfl
  intro K hK
  go_simp
  refine hK _ _ ?_
  clear hK K
  refine @BigFrame.wpList_want _ _ _ _ _ _ _ ?hws14 ?_
  case hws14 => kernel_rfl
  intro K hK
  go_simp
  refine hK _ _ ?_
  clear hK K
  refine @BigFrame.wpList_want _ _ _ _ _ _ _ ?hws15 ?_
  case hws15 => kernel_rfl
  intro K hK
  go_simp
  refine hK _ _ ?_
  clear hK K
  refine @BigFrame.wpList_want _ _ _ _ _ _ _ ?hws16 ?_
  case hws16 => kernel_rfl
  intro K hK
  go_simp
  refine hK _ _ ?_
  clear hK K
  refine @BigFrame.wpList_want _ _ _ _ _ _ _ ?hws17 ?_
  case hws17 => kernel_rfl
  intro K hK
  go_simp
  refine hK _ _ ?_
  clear hK K
  go_wp2
  go_ret
  exact ⟨rfl, HK1.out.trans (Kw6.mono HK1.out.size (fun i hi _ => by have := HK1.out.size; omega))⟩

end Go.Proofs.Ytdedookpdnbdiaa
