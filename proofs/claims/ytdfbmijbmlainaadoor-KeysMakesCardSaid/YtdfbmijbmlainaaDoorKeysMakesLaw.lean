/-
  The law KeysMakes.
-/
import Derived.Test.YtdfbmijbmlainaaDoorKC

namespace Go.Proofs.YtdfbmijbmlainaaDoor
open Go.RowKit Go.Lib

set_option maxRecDepth 100000 in
set_option maxHeartbeats 25600000 in
theorem keysmakes_walk (j : List UInt8) (hj : j.length = 32) (cc : ByteArray) (n : Int) (w : World) (tab : Tab w) : Calls Tryd.prog 3 #[.agg (bcells j).toArray, .string cc, .int .i64 n] w fun e w' => e = .returned (.bool true) ∧ Kept w.heap.size w.heap.size w w' := by
  have HAW := Lib.hid (fun (x : World) (k : Kept w.heap.size w.heap.size w x) => keys_awake x (tab.onto11 k))
  have HLJ := Lib.hid (fun (u : World) (b : Nat) (h : u.heap[b]? = some (.cells (bcells j).toArray 23 (0, 0))) => load_hash11 hj h)
  by_cases hz : cc.size ≤ 5000
  · have HM1 := Lib.hid (fun x => make_nil11 j hj cc (by omega) x)
    have HM2 := Lib.hid (fun x => refmake_calls11 j hj cc (by omega) x)
    have hfl : (Ky.secs j cc.data.toList).length = 224 := Ky.flat_len hj _ 6
    have HIF := Lib.hid (secInfo hfl)
    have HIR := Lib.hid (rsecInfo hfl)
    have HZF := Lib.hid (secSize hfl)
    have HAF := Lib.hid (bcells_all (Ky.secs j cc.data.toList))
    have hl : decide ((cc.size : Int) > 5000) = false := decide_eq_false (by omega)
    have gd := macGuard25
    have HA0 := Lib.hid (fun (u : World) (b : Nat) (h : u.heap[b]? = some (.cells (bcells (Ky.secs j cc.data.toList)).toArray 26 (0, 0))) => (show (loadVar 23 ⟨b, 0, none⟩).run Tryd.prog u = .ok (.agg (bcells j).toArray) u from load_sec (Ky.st_all hj cc.data.toList 6) h 0 _ rfl))
    have HA1 := Lib.hid (fun (u : World) (b : Nat) (h : u.heap[b]? = some (.cells (bcells (Ky.secs j cc.data.toList)).toArray 26 (0, 0))) => (show (loadVar 23 ⟨b, 32, none⟩).run Tryd.prog u = .ok (.agg (bcells (Ky.key j cc.data.toList 1)).toArray) u from load_sec (Ky.st_all hj cc.data.toList 6) h 1 _ rfl))
    have HB1 := Lib.hid (fun (u : World) (b : Nat) (h : u.heap[b]? = some (.cells (bcells (Ky.secs j cc.data.toList)).toArray 29 (0, 0))) => (show (loadVar 22 ⟨b, 32, none⟩).run Tryd.prog u = .ok (.agg (bcells (Ky.key j cc.data.toList 1)).toArray) u from load_sec22 (Ky.st_all hj cc.data.toList 6) h 1 _ rfl))
    have HA2 := Lib.hid (fun (u : World) (b : Nat) (h : u.heap[b]? = some (.cells (bcells (Ky.secs j cc.data.toList)).toArray 26 (0, 0))) => (show (loadVar 23 ⟨b, 64, none⟩).run Tryd.prog u = .ok (.agg (bcells (Ky.key j cc.data.toList 2)).toArray) u from load_sec (Ky.st_all hj cc.data.toList 6) h 2 _ rfl))
    have HB2 := Lib.hid (fun (u : World) (b : Nat) (h : u.heap[b]? = some (.cells (bcells (Ky.secs j cc.data.toList)).toArray 29 (0, 0))) => (show (loadVar 22 ⟨b, 64, none⟩).run Tryd.prog u = .ok (.agg (bcells (Ky.key j cc.data.toList 2)).toArray) u from load_sec22 (Ky.st_all hj cc.data.toList 6) h 2 _ rfl))
    have HA3 := Lib.hid (fun (u : World) (b : Nat) (h : u.heap[b]? = some (.cells (bcells (Ky.secs j cc.data.toList)).toArray 26 (0, 0))) => (show (loadVar 23 ⟨b, 96, none⟩).run Tryd.prog u = .ok (.agg (bcells (Ky.key j cc.data.toList 3)).toArray) u from load_sec (Ky.st_all hj cc.data.toList 6) h 3 _ rfl))
    have HB3 := Lib.hid (fun (u : World) (b : Nat) (h : u.heap[b]? = some (.cells (bcells (Ky.secs j cc.data.toList)).toArray 29 (0, 0))) => (show (loadVar 22 ⟨b, 96, none⟩).run Tryd.prog u = .ok (.agg (bcells (Ky.key j cc.data.toList 3)).toArray) u from load_sec22 (Ky.st_all hj cc.data.toList 6) h 3 _ rfl))
    have HA4 := Lib.hid (fun (u : World) (b : Nat) (h : u.heap[b]? = some (.cells (bcells (Ky.secs j cc.data.toList)).toArray 26 (0, 0))) => (show (loadVar 23 ⟨b, 128, none⟩).run Tryd.prog u = .ok (.agg (bcells (Ky.key j cc.data.toList 4)).toArray) u from load_sec (Ky.st_all hj cc.data.toList 6) h 4 _ rfl))
    have HB4 := Lib.hid (fun (u : World) (b : Nat) (h : u.heap[b]? = some (.cells (bcells (Ky.secs j cc.data.toList)).toArray 29 (0, 0))) => (show (loadVar 22 ⟨b, 128, none⟩).run Tryd.prog u = .ok (.agg (bcells (Ky.key j cc.data.toList 4)).toArray) u from load_sec22 (Ky.st_all hj cc.data.toList 6) h 4 _ rfl))
    have HA5 := Lib.hid (fun (u : World) (b : Nat) (h : u.heap[b]? = some (.cells (bcells (Ky.secs j cc.data.toList)).toArray 26 (0, 0))) => (show (loadVar 23 ⟨b, 160, none⟩).run Tryd.prog u = .ok (.agg (bcells (Ky.key j cc.data.toList 5)).toArray) u from load_sec (Ky.st_all hj cc.data.toList 6) h 5 _ rfl))
    have HB5 := Lib.hid (fun (u : World) (b : Nat) (h : u.heap[b]? = some (.cells (bcells (Ky.secs j cc.data.toList)).toArray 29 (0, 0))) => (show (loadVar 22 ⟨b, 160, none⟩).run Tryd.prog u = .ok (.agg (bcells (Ky.key j cc.data.toList 5)).toArray) u from load_sec22 (Ky.st_all hj cc.data.toList 6) h 5 _ rfl))
    have HA6 := Lib.hid (fun (u : World) (b : Nat) (h : u.heap[b]? = some (.cells (bcells (Ky.secs j cc.data.toList)).toArray 26 (0, 0))) => (show (loadVar 23 ⟨b, 192, none⟩).run Tryd.prog u = .ok (.agg (bcells (Ky.key j cc.data.toList 6)).toArray) u from load_sec (Ky.st_all hj cc.data.toList 6) h 6 _ rfl))
    have HB6 := Lib.hid (fun (u : World) (b : Nat) (h : u.heap[b]? = some (.cells (bcells (Ky.secs j cc.data.toList)).toArray 29 (0, 0))) => (show (loadVar 22 ⟨b, 192, none⟩).run Tryd.prog u = .ok (.agg (bcells (Ky.key j cc.data.toList 6)).toArray) u from load_sec22 (Ky.st_all hj cc.data.toList 6) h 6 _ rfl))
    have heq1 := fun x => mac_equalIn x (Ky.key j cc.data.toList 1) (Ky.key_length hj _ _)
    have heq2 := fun x => mac_equalIn x (Ky.key j cc.data.toList 2) (Ky.key_length hj _ _)
    have heq3 := fun x => mac_equalIn x (Ky.key j cc.data.toList 3) (Ky.key_length hj _ _)
    have heq4 := fun x => mac_equalIn x (Ky.key j cc.data.toList 4) (Ky.key_length hj _ _)
    have heq5 := fun x => mac_equalIn x (Ky.key j cc.data.toList 5) (Ky.key_length hj _ _)
    have heq6 := fun x => mac_equalIn x (Ky.key j cc.data.toList 6) (Ky.key_length hj _ _)
    have heq0 := fun x => mac_equalIn x j hj
    generalize (bcells (Ky.secs j cc.data.toList)).toArray = fu at HM1 HM2 HIF HIR HZF HAF HA0 HA1 HA2 HA3 HA4 HA5 HA6 HB1 HB2 HB3 HB4 HB5 HB6
    generalize (bcells (Ky.key j cc.data.toList 1)).toArray = s1 at HA1 HB1 heq1
    generalize (bcells (Ky.key j cc.data.toList 2)).toArray = s2 at HA2 HB2 heq2
    generalize (bcells (Ky.key j cc.data.toList 3)).toArray = s3 at HA3 HB3 heq3
    generalize (bcells (Ky.key j cc.data.toList 4)).toArray = s4 at HA4 HB4 heq4
    generalize (bcells (Ky.key j cc.data.toList 5)).toArray = s5 at HA5 HB5 heq5
    generalize (bcells (Ky.key j cc.data.toList 6)).toArray = s6 at HA6 HB6 heq6
    by_cases hn : n < 0 ∨ 64 ≤ n
    · have HAB := Lib.hid (fun x => app_bad11 none j n hn x)
      have HB0 := Lib.hid build_hash11
      have heq := fun x => mac_equalIn x Ky.z32 rfl
      generalize (bcells Ky.z32).toArray = zc at HAB HB0 heq
      generalize (bcells j).toArray = jc at HLJ HM1 HM2 HA0 HAB heq0 ⊢
      clear hj tab hfl hz
      by_cases hn0 : n < 0
      · have hd : decide (n < 0) = true := decide_eq_true hn0
        clear hn
        go_enter Tryd.func3, Tryd.ntmps3
        go_upto_region 0 with fail
        refine wp_region_lit ?_
        refine @BigFrame.wpList_want _ _ _ _ _ _ _ ?hw97091 ?_
        case hw97091 => kernel_rfl
        intro K hK
        go_simp
        refine hK _ _ ?_
        clear hK K
        have kn : Kept w.heap.size w.heap.size w (w.alloc (.cells jc 23)) := (Kept.refl _ _ _).alloc (Nat.le_refl _) _
        have rjb := heap_new w (.cells jc 23)
        have Kw1 := kn
        generalize w.alloc (.cells jc 23) = w1 at kn rjb Kw1  ⊢
        obtain ⟨jb, hjb⟩ : ∃ n, n = w.heap.size := ⟨_, rfl⟩
        rw [← hjb] at rjb
        (try rw [← hjb])
        clear hjb kn
        refine @BigFrame.wpList_want _ _ _ _ _ _ _ ?hw97092 ?_
        case hw97092 => kernel_rfl
        intro K hK
        go_simp
        refine hK _ _ ?_
        clear hK K
        have Rjb := Lib.hid rjb
        clear rjb
        have KW := Lib.hid Kw1
        clear Kw1
        go_upto_region 1 with fail
        refine wp_region_lit ?_
        refine @BigFrame.wpList_want _ _ _ _ _ _ _ ?hw97102 ?_
        case hw97102 => kernel_rfl
        intro K hK
        go_simp
        go_at_call 9
        refine (HAW.out _ KW.out).mono ?_
        rintro e x1 ⟨rfl, X1⟩
        refine hK _ _ ?_
        clear hK K
        refine @BigFrame.wpList_want _ _ _ _ _ _ _ ?hw97103 ?_
        case hw97103 => kernel_rfl
        intro K hK
        go_simp
        refine hK _ _ ?_
        clear hK K
        refine @BigFrame.wpList_want _ _ _ _ _ _ _ ?hw97104 ?_
        case hw97104 => kernel_rfl
        intro K hK
        go_simp
        refine hK _ _ ?_
        clear hK K
        refine @BigFrame.wpList_want _ _ _ _ _ _ _ ?hw97105 ?_
        case hw97105 => kernel_rfl
        intro K hK
        go_simp
        refine hK _ _ ?_
        clear hK K
        refine @BigFrame.wpList_want _ _ _ _ _ _ _ ?hw97106 ?_
        case hw97106 => kernel_rfl
        intro K hK
        go_simp
        refine hK _ _ ?_
        clear hK K
        refine @BigFrame.wpList_want _ _ _ _ _ _ _ ?hw97107 ?_
        case hw97107 => kernel_rfl
        intro K hK
        go_simp
        refine hK _ _ ?_
        clear hK K
        refine @BigFrame.wpList_want _ _ _ _ _ _ _ ?hw97108 ?_
        case hw97108 => kernel_rfl
        intro K hK
        go_simp
        refine hK _ _ ?_
        clear hK K
        have K1 := Lib.hid (KW.out.onto X1)
        replace Rjb := Lib.hid (row_kept Rjb.out X1)
        clear X1 KW
        as_aux_lemma =>
          go_upto_region 3 with fail
          refine wp_region_lit ?_
          refine @wpList_load_known _ _ _ _ _ _ _ ?hw97110 23 (.tmp 3) rfl (jb) (0) rfl (.agg jc) (HLJ.out _ _ Rjb.out) ?_
          case hw97110 => kernel_rfl
          simp only [Act.put, List.setIfInBounds_toArray, List.set_cons_zero, List.set_cons_succ]
          refine @BigFrame.wpList_want _ _ _ _ _ _ _ ?hw97111 ?_
          case hw97111 => kernel_rfl
          intro K hK
          go_simp
          refine hK _ _ ?_
          clear hK K
          refine @BigFrame.wpList_want _ _ _ _ _ _ _ ?hw97109 ?_
          case hw97109 => kernel_rfl
          intro K hK
          go_simp
          go_at_call 10
          refine (HM1.out _).mono ?_
          rintro e w3 ⟨rfl, k3⟩
          have K3 := Lib.hid (K1.out.onto k3)
          replace Rjb := Lib.hid (row_kept Rjb.out k3)
          clear k3 K1
          refine hK _ _ ?_
          clear hK K
          refine @wpL_alloc _ _ _ _ _ _ _ _ ?hw97112 26 rfl _ (alloc_secs _) ?_
          case hw97112 => kernel_rfl
          simp only [Act.put, List.setIfInBounds_toArray, List.set_cons_zero, List.set_cons_succ]
          refine wpList_store_row rfl 26 _ _ rfl (w3.heap.size) fu rfl rfl 26 zeros224 (heap_new _ _) (HIF.out) (HZF.out) (HAF.out) ?_
          simp only [Act.put]
          rw [World.setRow_alloc_new]
          have kn : Kept w3.heap.size w3.heap.size w3 (w3.alloc (.cells fu 26)) := (Kept.refl _ _ _).alloc (Nat.le_refl _) _
          have Rsb := Lib.hid (heap_new w3 (.cells fu 26))
          replace Rjb := Lib.hid (row_kept Rjb.out kn)
          have Kw4 := Lib.hid (K3.out.onto kn)
          clear kn
          generalize w3.alloc (.cells fu 26) = w4 at Rsb Kw4 Rjb ⊢
          generalize w3.heap.size = sb at Rsb ⊢
          as_aux_lemma =>
            go_upto_region 4 with fail
            refine wp_region_lit ?_
            refine @wpList_load_known _ _ _ _ _ _ _ ?hw97114 23 (.tmp 3) rfl (jb) (0) rfl (.agg jc) (HLJ.out _ _ Rjb.out) ?_
            case hw97114 => kernel_rfl
            simp only [Act.put, List.setIfInBounds_toArray, List.set_cons_zero, List.set_cons_succ]
            refine @BigFrame.wpList_want _ _ _ _ _ _ _ ?hw97115 ?_
            case hw97115 => kernel_rfl
            intro K hK
            go_simp
            refine hK _ _ ?_
            clear hK K
            refine @BigFrame.wpList_want _ _ _ _ _ _ _ ?hw97113 ?_
            case hw97113 => kernel_rfl
            intro K hK
            go_simp
            go_at_call 11
            refine (HM2.out _).mono ?_
            rintro e w5 ⟨rfl, k5⟩
            have K5 := Lib.hid (Kw4.out.onto k5)
            replace Rjb := Lib.hid (row_kept Rjb.out k5)
            replace Rsb := Lib.hid (row_kept Rsb.out k5)
            clear k5 Kw4
            refine hK _ _ ?_
            clear hK K
            refine @wpL_alloc _ _ _ _ _ _ _ _ ?hw97116 29 rfl _ (alloc_rsecs _) ?_
            case hw97116 => kernel_rfl
            simp only [Act.put, List.setIfInBounds_toArray, List.set_cons_zero, List.set_cons_succ]
            refine wpList_store_row rfl 29 _ _ rfl (w5.heap.size) fu rfl rfl 29 zeros224 (heap_new _ _) (HIR.out) (HZF.out) (HAF.out) ?_
            simp only [Act.put]
            rw [World.setRow_alloc_new]
            have kn : Kept w5.heap.size w5.heap.size w5 (w5.alloc (.cells fu 29)) := (Kept.refl _ _ _).alloc (Nat.le_refl _) _
            have Rmb := Lib.hid (heap_new w5 (.cells fu 29))
            replace Rjb := Lib.hid (row_kept Rjb.out kn)
            replace Rsb := Lib.hid (row_kept Rsb.out kn)
            have Kw6 := Lib.hid (K5.out.onto kn)
            clear kn
            generalize w5.alloc (.cells fu 29) = w6 at Rmb Kw6 Rjb Rsb ⊢
            generalize w5.heap.size = mb at Rmb ⊢
            as_aux_lemma =>
              go_upto_region 5 with fail
              refine wp_region_lit ?_
              refine @BigFrame.wpList_want _ _ _ _ _ _ _ ?hw97117 ?_
              case hw97117 => kernel_rfl
              intro K hK
              go_simp
              refine hK _ _ ?_
              clear hK K
              refine @wpList_load_known _ _ _ _ _ _ _ ?hw97118 23 (.tmp 23) rfl (sb) (0) rfl (.agg jc) (HA0.out _ _ Rsb.out) ?_
              case hw97118 => kernel_rfl
              simp only [Act.put, List.setIfInBounds_toArray, List.set_cons_zero, List.set_cons_succ]
              refine @wpList_load_known _ _ _ _ _ _ _ ?hw97119 23 (.tmp 3) rfl (jb) (0) rfl (.agg jc) (HLJ.out _ _ Rjb.out) ?_
              case hw97119 => kernel_rfl
              simp only [Act.put, List.setIfInBounds_toArray, List.set_cons_zero, List.set_cons_succ]
              refine @BigFrame.wpList_want _ _ _ _ _ _ _ ?hw97120 ?_
              case hw97120 => kernel_rfl
              intro K hK
              go_simp
              refine hK _ _ ?_
              clear hK K
              refine @BigFrame.wpList_want _ _ _ _ _ _ _ ?hw97121 ?_
              case hw97121 => kernel_rfl
              intro K hK
              go_simp
              refine hK _ _ ?_
              clear hK K
              refine @BigFrame.wpList_want _ _ _ _ _ _ _ ?hw97122 ?_
              case hw97122 => kernel_rfl
              intro K hK
              go_simp
              refine hK _ _ ?_
              clear hK K
              refine @wpList_load_known _ _ _ _ _ _ _ ?hw97123 23 (.tmp 28) rfl (sb) (32) rfl (.agg s1) (HA1.out _ _ Rsb.out) ?_
              case hw97123 => kernel_rfl
              simp only [Act.put, List.setIfInBounds_toArray, List.set_cons_zero, List.set_cons_succ]
              refine @BigFrame.wpList_want _ _ _ _ _ _ _ ?hw97124 ?_
              case hw97124 => kernel_rfl
              intro K hK
              go_simp
              refine hK _ _ ?_
              clear hK K
              refine @wpList_load_known _ _ _ _ _ _ _ ?hw97125 22 (.tmp 30) rfl (mb) (32) rfl (.agg s1) (HB1.out _ _ Rmb.out) ?_
              case hw97125 => kernel_rfl
              simp only [Act.put, List.setIfInBounds_toArray, List.set_cons_zero, List.set_cons_succ]
              refine @BigFrame.wpList_want _ _ _ _ _ _ _ ?hw97126 ?_
              case hw97126 => kernel_rfl
              intro K hK
              go_simp
              refine hK _ _ ?_
              clear hK K
              refine @BigFrame.wpList_want _ _ _ _ _ _ _ ?hw97127 ?_
              case hw97127 => kernel_rfl
              intro K hK
              go_simp
              refine hK _ _ ?_
              clear hK K
              refine @BigFrame.wpList_want _ _ _ _ _ _ _ ?hw97128 ?_
              case hw97128 => kernel_rfl
              intro K hK
              go_simp
              refine hK _ _ ?_
              clear hK K
              as_aux_lemma =>
                refine @BigFrame.wpList_want _ _ _ _ _ _ _ ?hw97129 ?_
                case hw97129 => kernel_rfl
                intro K hK
                go_simp
                refine hK _ _ ?_
                clear hK K
                refine @wpList_load_known _ _ _ _ _ _ _ ?hw97130 23 (.tmp 35) rfl (sb) (64) rfl (.agg s2) (HA2.out _ _ Rsb.out) ?_
                case hw97130 => kernel_rfl
                simp only [Act.put, List.setIfInBounds_toArray, List.set_cons_zero, List.set_cons_succ]
                refine @BigFrame.wpList_want _ _ _ _ _ _ _ ?hw97131 ?_
                case hw97131 => kernel_rfl
                intro K hK
                go_simp
                refine hK _ _ ?_
                clear hK K
                refine @wpList_load_known _ _ _ _ _ _ _ ?hw97132 22 (.tmp 37) rfl (mb) (64) rfl (.agg s2) (HB2.out _ _ Rmb.out) ?_
                case hw97132 => kernel_rfl
                simp only [Act.put, List.setIfInBounds_toArray, List.set_cons_zero, List.set_cons_succ]
                refine @BigFrame.wpList_want _ _ _ _ _ _ _ ?hw97133 ?_
                case hw97133 => kernel_rfl
                intro K hK
                go_simp
                refine hK _ _ ?_
                clear hK K
                refine @BigFrame.wpList_want _ _ _ _ _ _ _ ?hw97134 ?_
                case hw97134 => kernel_rfl
                intro K hK
                go_simp
                refine hK _ _ ?_
                clear hK K
                refine @BigFrame.wpList_want _ _ _ _ _ _ _ ?hw97135 ?_
                case hw97135 => kernel_rfl
                intro K hK
                go_simp
                refine hK _ _ ?_
                clear hK K
                as_aux_lemma =>
                  refine @BigFrame.wpList_want _ _ _ _ _ _ _ ?hw97136 ?_
                  case hw97136 => kernel_rfl
                  intro K hK
                  go_simp
                  refine hK _ _ ?_
                  clear hK K
                  refine @wpList_load_known _ _ _ _ _ _ _ ?hw97137 23 (.tmp 42) rfl (sb) (96) rfl (.agg s3) (HA3.out _ _ Rsb.out) ?_
                  case hw97137 => kernel_rfl
                  simp only [Act.put, List.setIfInBounds_toArray, List.set_cons_zero, List.set_cons_succ]
                  refine @BigFrame.wpList_want _ _ _ _ _ _ _ ?hw97138 ?_
                  case hw97138 => kernel_rfl
                  intro K hK
                  go_simp
                  refine hK _ _ ?_
                  clear hK K
                  refine @wpList_load_known _ _ _ _ _ _ _ ?hw97139 22 (.tmp 44) rfl (mb) (96) rfl (.agg s3) (HB3.out _ _ Rmb.out) ?_
                  case hw97139 => kernel_rfl
                  simp only [Act.put, List.setIfInBounds_toArray, List.set_cons_zero, List.set_cons_succ]
                  refine @BigFrame.wpList_want _ _ _ _ _ _ _ ?hw97140 ?_
                  case hw97140 => kernel_rfl
                  intro K hK
                  go_simp
                  refine hK _ _ ?_
                  clear hK K
                  refine @BigFrame.wpList_want _ _ _ _ _ _ _ ?hw97141 ?_
                  case hw97141 => kernel_rfl
                  intro K hK
                  go_simp
                  refine hK _ _ ?_
                  clear hK K
                  refine @BigFrame.wpList_want _ _ _ _ _ _ _ ?hw97142 ?_
                  case hw97142 => kernel_rfl
                  intro K hK
                  go_simp
                  refine hK _ _ ?_
                  clear hK K
                  as_aux_lemma =>
                    refine @BigFrame.wpList_want _ _ _ _ _ _ _ ?hw97143 ?_
                    case hw97143 => kernel_rfl
                    intro K hK
                    go_simp
                    refine hK _ _ ?_
                    clear hK K
                    refine @wpList_load_known _ _ _ _ _ _ _ ?hw97144 23 (.tmp 49) rfl (sb) (128) rfl (.agg s4) (HA4.out _ _ Rsb.out) ?_
                    case hw97144 => kernel_rfl
                    simp only [Act.put, List.setIfInBounds_toArray, List.set_cons_zero, List.set_cons_succ]
                    refine @BigFrame.wpList_want _ _ _ _ _ _ _ ?hw97145 ?_
                    case hw97145 => kernel_rfl
                    intro K hK
                    go_simp
                    refine hK _ _ ?_
                    clear hK K
                    refine @wpList_load_known _ _ _ _ _ _ _ ?hw97146 22 (.tmp 51) rfl (mb) (128) rfl (.agg s4) (HB4.out _ _ Rmb.out) ?_
                    case hw97146 => kernel_rfl
                    simp only [Act.put, List.setIfInBounds_toArray, List.set_cons_zero, List.set_cons_succ]
                    refine @BigFrame.wpList_want _ _ _ _ _ _ _ ?hw97147 ?_
                    case hw97147 => kernel_rfl
                    intro K hK
                    go_simp
                    refine hK _ _ ?_
                    clear hK K
                    refine @BigFrame.wpList_want _ _ _ _ _ _ _ ?hw97148 ?_
                    case hw97148 => kernel_rfl
                    intro K hK
                    go_simp
                    refine hK _ _ ?_
                    clear hK K
                    refine @BigFrame.wpList_want _ _ _ _ _ _ _ ?hw97149 ?_
                    case hw97149 => kernel_rfl
                    intro K hK
                    go_simp
                    refine hK _ _ ?_
                    clear hK K
                    as_aux_lemma =>
                      refine @BigFrame.wpList_want _ _ _ _ _ _ _ ?hw97150 ?_
                      case hw97150 => kernel_rfl
                      intro K hK
                      go_simp
                      refine hK _ _ ?_
                      clear hK K
                      refine @wpList_load_known _ _ _ _ _ _ _ ?hw97151 23 (.tmp 56) rfl (sb) (160) rfl (.agg s5) (HA5.out _ _ Rsb.out) ?_
                      case hw97151 => kernel_rfl
                      simp only [Act.put, List.setIfInBounds_toArray, List.set_cons_zero, List.set_cons_succ]
                      refine @BigFrame.wpList_want _ _ _ _ _ _ _ ?hw97152 ?_
                      case hw97152 => kernel_rfl
                      intro K hK
                      go_simp
                      refine hK _ _ ?_
                      clear hK K
                      refine @wpList_load_known _ _ _ _ _ _ _ ?hw97153 22 (.tmp 58) rfl (mb) (160) rfl (.agg s5) (HB5.out _ _ Rmb.out) ?_
                      case hw97153 => kernel_rfl
                      simp only [Act.put, List.setIfInBounds_toArray, List.set_cons_zero, List.set_cons_succ]
                      refine @BigFrame.wpList_want _ _ _ _ _ _ _ ?hw97154 ?_
                      case hw97154 => kernel_rfl
                      intro K hK
                      go_simp
                      refine hK _ _ ?_
                      clear hK K
                      refine @BigFrame.wpList_want _ _ _ _ _ _ _ ?hw97155 ?_
                      case hw97155 => kernel_rfl
                      intro K hK
                      go_simp
                      refine hK _ _ ?_
                      clear hK K
                      refine @BigFrame.wpList_want _ _ _ _ _ _ _ ?hw97156 ?_
                      case hw97156 => kernel_rfl
                      intro K hK
                      go_simp
                      refine hK _ _ ?_
                      clear hK K
                      as_aux_lemma =>
                        refine @BigFrame.wpList_want _ _ _ _ _ _ _ ?hw97157 ?_
                        case hw97157 => kernel_rfl
                        intro K hK
                        go_simp
                        refine hK _ _ ?_
                        clear hK K
                        refine @wpList_load_known _ _ _ _ _ _ _ ?hw97158 23 (.tmp 63) rfl (sb) (192) rfl (.agg s6) (HA6.out _ _ Rsb.out) ?_
                        case hw97158 => kernel_rfl
                        simp only [Act.put, List.setIfInBounds_toArray, List.set_cons_zero, List.set_cons_succ]
                        refine @BigFrame.wpList_want _ _ _ _ _ _ _ ?hw97159 ?_
                        case hw97159 => kernel_rfl
                        intro K hK
                        go_simp
                        refine hK _ _ ?_
                        clear hK K
                        refine @wpList_load_known _ _ _ _ _ _ _ ?hw97160 22 (.tmp 65) rfl (mb) (192) rfl (.agg s6) (HB6.out _ _ Rmb.out) ?_
                        case hw97160 => kernel_rfl
                        simp only [Act.put, List.setIfInBounds_toArray, List.set_cons_zero, List.set_cons_succ]
                        refine @BigFrame.wpList_want _ _ _ _ _ _ _ ?hw97161 ?_
                        case hw97161 => kernel_rfl
                        intro K hK
                        go_simp
                        refine hK _ _ ?_
                        clear hK K
                        refine @BigFrame.wpList_want _ _ _ _ _ _ _ ?hw97162 ?_
                        case hw97162 => kernel_rfl
                        intro K hK
                        go_simp
                        refine hK _ _ ?_
                        clear hK K
                        as_aux_lemma =>
                          go_upto_region 8 with fail
                          refine wp_region_lit ?_
                          refine @wpList_load_known _ _ _ _ _ _ _ ?hw97164 23 (.tmp 3) rfl (jb) (0) rfl (.agg jc) (HLJ.out _ _ Rjb.out) ?_
                          case hw97164 => kernel_rfl
                          simp only [Act.put, List.setIfInBounds_toArray, List.set_cons_zero, List.set_cons_succ]
                          refine @BigFrame.wpList_want _ _ _ _ _ _ _ ?hw97165 ?_
                          case hw97165 => kernel_rfl
                          intro K hK
                          go_simp
                          refine hK _ _ ?_
                          clear hK K
                          refine @BigFrame.wpList_want _ _ _ _ _ _ _ ?hw97163 ?_
                          case hw97163 => kernel_rfl
                          intro K hK
                          go_simp
                          go_at_call 12
                          refine (HAB.out _).mono ?_
                          rintro e x2 ⟨rfl, k2⟩
                          have X2 := Kw6.out.onto k2
                          refine hK _ _ ?_
                          clear hK K
                          refine @wpL_build0 _ _ _ _ _ _ _ ?hw97166 23 rfl _ (HB0.out _) ?_
                          case hw97166 => kernel_rfl
                          simp only [Act.put, List.setIfInBounds_toArray, List.set_cons_zero, List.set_cons_succ]
                          refine @BigFrame.wpList_want _ _ _ _ _ _ _ ?hw97167 ?_
                          case hw97167 => kernel_rfl
                          intro K hK
                          go_simp
                          refine hK _ _ ?_
                          clear hK K
                          refine @BigFrame.wpList_want _ _ _ _ _ _ _ ?hw97168 ?_
                          case hw97168 => kernel_rfl
                          intro K hK
                          go_simp
                          refine hK _ _ ?_
                          clear hK K
                          go_wp2
                          go_ret
                          exact ⟨rfl, X2⟩
      · have hd : decide (n < 0) = false := decide_eq_false hn0
        have hd2 : decide (n ≥ 64) = true := decide_eq_true (by omega)
        clear hn
        go_enter Tryd.func3, Tryd.ntmps3
        go_upto_region 0 with fail
        refine wp_region_lit ?_
        refine @BigFrame.wpList_want _ _ _ _ _ _ _ ?hw97091 ?_
        case hw97091 => kernel_rfl
        intro K hK
        go_simp
        refine hK _ _ ?_
        clear hK K
        have kn : Kept w.heap.size w.heap.size w (w.alloc (.cells jc 23)) := (Kept.refl _ _ _).alloc (Nat.le_refl _) _
        have rjb := heap_new w (.cells jc 23)
        have Kw1 := kn
        generalize w.alloc (.cells jc 23) = w1 at kn rjb Kw1  ⊢
        obtain ⟨jb, hjb⟩ : ∃ n, n = w.heap.size := ⟨_, rfl⟩
        rw [← hjb] at rjb
        (try rw [← hjb])
        clear hjb kn
        refine @BigFrame.wpList_want _ _ _ _ _ _ _ ?hw97092 ?_
        case hw97092 => kernel_rfl
        intro K hK
        go_simp
        refine hK _ _ ?_
        clear hK K
        have Rjb := Lib.hid rjb
        clear rjb
        have KW := Lib.hid Kw1
        clear Kw1
        go_upto_region 1 with fail
        refine wp_region_lit ?_
        refine @BigFrame.wpList_want _ _ _ _ _ _ _ ?hw97102 ?_
        case hw97102 => kernel_rfl
        intro K hK
        go_simp
        go_at_call 9
        refine (HAW.out _ KW.out).mono ?_
        rintro e x1 ⟨rfl, X1⟩
        refine hK _ _ ?_
        clear hK K
        refine @BigFrame.wpList_want _ _ _ _ _ _ _ ?hw97103 ?_
        case hw97103 => kernel_rfl
        intro K hK
        go_simp
        refine hK _ _ ?_
        clear hK K
        refine @BigFrame.wpList_want _ _ _ _ _ _ _ ?hw97104 ?_
        case hw97104 => kernel_rfl
        intro K hK
        go_simp
        refine hK _ _ ?_
        clear hK K
        refine @BigFrame.wpList_want _ _ _ _ _ _ _ ?hw97105 ?_
        case hw97105 => kernel_rfl
        intro K hK
        go_simp
        refine hK _ _ ?_
        clear hK K
        refine @BigFrame.wpList_want _ _ _ _ _ _ _ ?hw97106 ?_
        case hw97106 => kernel_rfl
        intro K hK
        go_simp
        refine hK _ _ ?_
        clear hK K
        refine @BigFrame.wpList_want _ _ _ _ _ _ _ ?hw97107 ?_
        case hw97107 => kernel_rfl
        intro K hK
        go_simp
        refine hK _ _ ?_
        clear hK K
        refine @BigFrame.wpList_want _ _ _ _ _ _ _ ?hw97108 ?_
        case hw97108 => kernel_rfl
        intro K hK
        go_simp
        refine hK _ _ ?_
        clear hK K
        have K1 := Lib.hid (KW.out.onto X1)
        replace Rjb := Lib.hid (row_kept Rjb.out X1)
        clear X1 KW
        as_aux_lemma =>
          go_upto_region 3 with fail
          refine wp_region_lit ?_
          refine @wpList_load_known _ _ _ _ _ _ _ ?hw97110 23 (.tmp 3) rfl (jb) (0) rfl (.agg jc) (HLJ.out _ _ Rjb.out) ?_
          case hw97110 => kernel_rfl
          simp only [Act.put, List.setIfInBounds_toArray, List.set_cons_zero, List.set_cons_succ]
          refine @BigFrame.wpList_want _ _ _ _ _ _ _ ?hw97111 ?_
          case hw97111 => kernel_rfl
          intro K hK
          go_simp
          refine hK _ _ ?_
          clear hK K
          refine @BigFrame.wpList_want _ _ _ _ _ _ _ ?hw97109 ?_
          case hw97109 => kernel_rfl
          intro K hK
          go_simp
          go_at_call 10
          refine (HM1.out _).mono ?_
          rintro e w3 ⟨rfl, k3⟩
          have K3 := Lib.hid (K1.out.onto k3)
          replace Rjb := Lib.hid (row_kept Rjb.out k3)
          clear k3 K1
          refine hK _ _ ?_
          clear hK K
          refine @wpL_alloc _ _ _ _ _ _ _ _ ?hw97112 26 rfl _ (alloc_secs _) ?_
          case hw97112 => kernel_rfl
          simp only [Act.put, List.setIfInBounds_toArray, List.set_cons_zero, List.set_cons_succ]
          refine wpList_store_row rfl 26 _ _ rfl (w3.heap.size) fu rfl rfl 26 zeros224 (heap_new _ _) (HIF.out) (HZF.out) (HAF.out) ?_
          simp only [Act.put]
          rw [World.setRow_alloc_new]
          have kn : Kept w3.heap.size w3.heap.size w3 (w3.alloc (.cells fu 26)) := (Kept.refl _ _ _).alloc (Nat.le_refl _) _
          have Rsb := Lib.hid (heap_new w3 (.cells fu 26))
          replace Rjb := Lib.hid (row_kept Rjb.out kn)
          have Kw4 := Lib.hid (K3.out.onto kn)
          clear kn
          generalize w3.alloc (.cells fu 26) = w4 at Rsb Kw4 Rjb ⊢
          generalize w3.heap.size = sb at Rsb ⊢
          as_aux_lemma =>
            go_upto_region 4 with fail
            refine wp_region_lit ?_
            refine @wpList_load_known _ _ _ _ _ _ _ ?hw97114 23 (.tmp 3) rfl (jb) (0) rfl (.agg jc) (HLJ.out _ _ Rjb.out) ?_
            case hw97114 => kernel_rfl
            simp only [Act.put, List.setIfInBounds_toArray, List.set_cons_zero, List.set_cons_succ]
            refine @BigFrame.wpList_want _ _ _ _ _ _ _ ?hw97115 ?_
            case hw97115 => kernel_rfl
            intro K hK
            go_simp
            refine hK _ _ ?_
            clear hK K
            refine @BigFrame.wpList_want _ _ _ _ _ _ _ ?hw97113 ?_
            case hw97113 => kernel_rfl
            intro K hK
            go_simp
            go_at_call 11
            refine (HM2.out _).mono ?_
            rintro e w5 ⟨rfl, k5⟩
            have K5 := Lib.hid (Kw4.out.onto k5)
            replace Rjb := Lib.hid (row_kept Rjb.out k5)
            replace Rsb := Lib.hid (row_kept Rsb.out k5)
            clear k5 Kw4
            refine hK _ _ ?_
            clear hK K
            refine @wpL_alloc _ _ _ _ _ _ _ _ ?hw97116 29 rfl _ (alloc_rsecs _) ?_
            case hw97116 => kernel_rfl
            simp only [Act.put, List.setIfInBounds_toArray, List.set_cons_zero, List.set_cons_succ]
            refine wpList_store_row rfl 29 _ _ rfl (w5.heap.size) fu rfl rfl 29 zeros224 (heap_new _ _) (HIR.out) (HZF.out) (HAF.out) ?_
            simp only [Act.put]
            rw [World.setRow_alloc_new]
            have kn : Kept w5.heap.size w5.heap.size w5 (w5.alloc (.cells fu 29)) := (Kept.refl _ _ _).alloc (Nat.le_refl _) _
            have Rmb := Lib.hid (heap_new w5 (.cells fu 29))
            replace Rjb := Lib.hid (row_kept Rjb.out kn)
            replace Rsb := Lib.hid (row_kept Rsb.out kn)
            have Kw6 := Lib.hid (K5.out.onto kn)
            clear kn
            generalize w5.alloc (.cells fu 29) = w6 at Rmb Kw6 Rjb Rsb ⊢
            generalize w5.heap.size = mb at Rmb ⊢
            as_aux_lemma =>
              go_upto_region 5 with fail
              refine wp_region_lit ?_
              refine @BigFrame.wpList_want _ _ _ _ _ _ _ ?hw97117 ?_
              case hw97117 => kernel_rfl
              intro K hK
              go_simp
              refine hK _ _ ?_
              clear hK K
              refine @wpList_load_known _ _ _ _ _ _ _ ?hw97118 23 (.tmp 23) rfl (sb) (0) rfl (.agg jc) (HA0.out _ _ Rsb.out) ?_
              case hw97118 => kernel_rfl
              simp only [Act.put, List.setIfInBounds_toArray, List.set_cons_zero, List.set_cons_succ]
              refine @wpList_load_known _ _ _ _ _ _ _ ?hw97119 23 (.tmp 3) rfl (jb) (0) rfl (.agg jc) (HLJ.out _ _ Rjb.out) ?_
              case hw97119 => kernel_rfl
              simp only [Act.put, List.setIfInBounds_toArray, List.set_cons_zero, List.set_cons_succ]
              refine @BigFrame.wpList_want _ _ _ _ _ _ _ ?hw97120 ?_
              case hw97120 => kernel_rfl
              intro K hK
              go_simp
              refine hK _ _ ?_
              clear hK K
              refine @BigFrame.wpList_want _ _ _ _ _ _ _ ?hw97121 ?_
              case hw97121 => kernel_rfl
              intro K hK
              go_simp
              refine hK _ _ ?_
              clear hK K
              refine @BigFrame.wpList_want _ _ _ _ _ _ _ ?hw97122 ?_
              case hw97122 => kernel_rfl
              intro K hK
              go_simp
              refine hK _ _ ?_
              clear hK K
              refine @wpList_load_known _ _ _ _ _ _ _ ?hw97123 23 (.tmp 28) rfl (sb) (32) rfl (.agg s1) (HA1.out _ _ Rsb.out) ?_
              case hw97123 => kernel_rfl
              simp only [Act.put, List.setIfInBounds_toArray, List.set_cons_zero, List.set_cons_succ]
              refine @BigFrame.wpList_want _ _ _ _ _ _ _ ?hw97124 ?_
              case hw97124 => kernel_rfl
              intro K hK
              go_simp
              refine hK _ _ ?_
              clear hK K
              refine @wpList_load_known _ _ _ _ _ _ _ ?hw97125 22 (.tmp 30) rfl (mb) (32) rfl (.agg s1) (HB1.out _ _ Rmb.out) ?_
              case hw97125 => kernel_rfl
              simp only [Act.put, List.setIfInBounds_toArray, List.set_cons_zero, List.set_cons_succ]
              refine @BigFrame.wpList_want _ _ _ _ _ _ _ ?hw97126 ?_
              case hw97126 => kernel_rfl
              intro K hK
              go_simp
              refine hK _ _ ?_
              clear hK K
              refine @BigFrame.wpList_want _ _ _ _ _ _ _ ?hw97127 ?_
              case hw97127 => kernel_rfl
              intro K hK
              go_simp
              refine hK _ _ ?_
              clear hK K
              refine @BigFrame.wpList_want _ _ _ _ _ _ _ ?hw97128 ?_
              case hw97128 => kernel_rfl
              intro K hK
              go_simp
              refine hK _ _ ?_
              clear hK K
              as_aux_lemma =>
                refine @BigFrame.wpList_want _ _ _ _ _ _ _ ?hw97129 ?_
                case hw97129 => kernel_rfl
                intro K hK
                go_simp
                refine hK _ _ ?_
                clear hK K
                refine @wpList_load_known _ _ _ _ _ _ _ ?hw97130 23 (.tmp 35) rfl (sb) (64) rfl (.agg s2) (HA2.out _ _ Rsb.out) ?_
                case hw97130 => kernel_rfl
                simp only [Act.put, List.setIfInBounds_toArray, List.set_cons_zero, List.set_cons_succ]
                refine @BigFrame.wpList_want _ _ _ _ _ _ _ ?hw97131 ?_
                case hw97131 => kernel_rfl
                intro K hK
                go_simp
                refine hK _ _ ?_
                clear hK K
                refine @wpList_load_known _ _ _ _ _ _ _ ?hw97132 22 (.tmp 37) rfl (mb) (64) rfl (.agg s2) (HB2.out _ _ Rmb.out) ?_
                case hw97132 => kernel_rfl
                simp only [Act.put, List.setIfInBounds_toArray, List.set_cons_zero, List.set_cons_succ]
                refine @BigFrame.wpList_want _ _ _ _ _ _ _ ?hw97133 ?_
                case hw97133 => kernel_rfl
                intro K hK
                go_simp
                refine hK _ _ ?_
                clear hK K
                refine @BigFrame.wpList_want _ _ _ _ _ _ _ ?hw97134 ?_
                case hw97134 => kernel_rfl
                intro K hK
                go_simp
                refine hK _ _ ?_
                clear hK K
                refine @BigFrame.wpList_want _ _ _ _ _ _ _ ?hw97135 ?_
                case hw97135 => kernel_rfl
                intro K hK
                go_simp
                refine hK _ _ ?_
                clear hK K
                as_aux_lemma =>
                  refine @BigFrame.wpList_want _ _ _ _ _ _ _ ?hw97136 ?_
                  case hw97136 => kernel_rfl
                  intro K hK
                  go_simp
                  refine hK _ _ ?_
                  clear hK K
                  refine @wpList_load_known _ _ _ _ _ _ _ ?hw97137 23 (.tmp 42) rfl (sb) (96) rfl (.agg s3) (HA3.out _ _ Rsb.out) ?_
                  case hw97137 => kernel_rfl
                  simp only [Act.put, List.setIfInBounds_toArray, List.set_cons_zero, List.set_cons_succ]
                  refine @BigFrame.wpList_want _ _ _ _ _ _ _ ?hw97138 ?_
                  case hw97138 => kernel_rfl
                  intro K hK
                  go_simp
                  refine hK _ _ ?_
                  clear hK K
                  refine @wpList_load_known _ _ _ _ _ _ _ ?hw97139 22 (.tmp 44) rfl (mb) (96) rfl (.agg s3) (HB3.out _ _ Rmb.out) ?_
                  case hw97139 => kernel_rfl
                  simp only [Act.put, List.setIfInBounds_toArray, List.set_cons_zero, List.set_cons_succ]
                  refine @BigFrame.wpList_want _ _ _ _ _ _ _ ?hw97140 ?_
                  case hw97140 => kernel_rfl
                  intro K hK
                  go_simp
                  refine hK _ _ ?_
                  clear hK K
                  refine @BigFrame.wpList_want _ _ _ _ _ _ _ ?hw97141 ?_
                  case hw97141 => kernel_rfl
                  intro K hK
                  go_simp
                  refine hK _ _ ?_
                  clear hK K
                  refine @BigFrame.wpList_want _ _ _ _ _ _ _ ?hw97142 ?_
                  case hw97142 => kernel_rfl
                  intro K hK
                  go_simp
                  refine hK _ _ ?_
                  clear hK K
                  as_aux_lemma =>
                    refine @BigFrame.wpList_want _ _ _ _ _ _ _ ?hw97143 ?_
                    case hw97143 => kernel_rfl
                    intro K hK
                    go_simp
                    refine hK _ _ ?_
                    clear hK K
                    refine @wpList_load_known _ _ _ _ _ _ _ ?hw97144 23 (.tmp 49) rfl (sb) (128) rfl (.agg s4) (HA4.out _ _ Rsb.out) ?_
                    case hw97144 => kernel_rfl
                    simp only [Act.put, List.setIfInBounds_toArray, List.set_cons_zero, List.set_cons_succ]
                    refine @BigFrame.wpList_want _ _ _ _ _ _ _ ?hw97145 ?_
                    case hw97145 => kernel_rfl
                    intro K hK
                    go_simp
                    refine hK _ _ ?_
                    clear hK K
                    refine @wpList_load_known _ _ _ _ _ _ _ ?hw97146 22 (.tmp 51) rfl (mb) (128) rfl (.agg s4) (HB4.out _ _ Rmb.out) ?_
                    case hw97146 => kernel_rfl
                    simp only [Act.put, List.setIfInBounds_toArray, List.set_cons_zero, List.set_cons_succ]
                    refine @BigFrame.wpList_want _ _ _ _ _ _ _ ?hw97147 ?_
                    case hw97147 => kernel_rfl
                    intro K hK
                    go_simp
                    refine hK _ _ ?_
                    clear hK K
                    refine @BigFrame.wpList_want _ _ _ _ _ _ _ ?hw97148 ?_
                    case hw97148 => kernel_rfl
                    intro K hK
                    go_simp
                    refine hK _ _ ?_
                    clear hK K
                    refine @BigFrame.wpList_want _ _ _ _ _ _ _ ?hw97149 ?_
                    case hw97149 => kernel_rfl
                    intro K hK
                    go_simp
                    refine hK _ _ ?_
                    clear hK K
                    as_aux_lemma =>
                      refine @BigFrame.wpList_want _ _ _ _ _ _ _ ?hw97150 ?_
                      case hw97150 => kernel_rfl
                      intro K hK
                      go_simp
                      refine hK _ _ ?_
                      clear hK K
                      refine @wpList_load_known _ _ _ _ _ _ _ ?hw97151 23 (.tmp 56) rfl (sb) (160) rfl (.agg s5) (HA5.out _ _ Rsb.out) ?_
                      case hw97151 => kernel_rfl
                      simp only [Act.put, List.setIfInBounds_toArray, List.set_cons_zero, List.set_cons_succ]
                      refine @BigFrame.wpList_want _ _ _ _ _ _ _ ?hw97152 ?_
                      case hw97152 => kernel_rfl
                      intro K hK
                      go_simp
                      refine hK _ _ ?_
                      clear hK K
                      refine @wpList_load_known _ _ _ _ _ _ _ ?hw97153 22 (.tmp 58) rfl (mb) (160) rfl (.agg s5) (HB5.out _ _ Rmb.out) ?_
                      case hw97153 => kernel_rfl
                      simp only [Act.put, List.setIfInBounds_toArray, List.set_cons_zero, List.set_cons_succ]
                      refine @BigFrame.wpList_want _ _ _ _ _ _ _ ?hw97154 ?_
                      case hw97154 => kernel_rfl
                      intro K hK
                      go_simp
                      refine hK _ _ ?_
                      clear hK K
                      refine @BigFrame.wpList_want _ _ _ _ _ _ _ ?hw97155 ?_
                      case hw97155 => kernel_rfl
                      intro K hK
                      go_simp
                      refine hK _ _ ?_
                      clear hK K
                      refine @BigFrame.wpList_want _ _ _ _ _ _ _ ?hw97156 ?_
                      case hw97156 => kernel_rfl
                      intro K hK
                      go_simp
                      refine hK _ _ ?_
                      clear hK K
                      as_aux_lemma =>
                        refine @BigFrame.wpList_want _ _ _ _ _ _ _ ?hw97157 ?_
                        case hw97157 => kernel_rfl
                        intro K hK
                        go_simp
                        refine hK _ _ ?_
                        clear hK K
                        refine @wpList_load_known _ _ _ _ _ _ _ ?hw97158 23 (.tmp 63) rfl (sb) (192) rfl (.agg s6) (HA6.out _ _ Rsb.out) ?_
                        case hw97158 => kernel_rfl
                        simp only [Act.put, List.setIfInBounds_toArray, List.set_cons_zero, List.set_cons_succ]
                        refine @BigFrame.wpList_want _ _ _ _ _ _ _ ?hw97159 ?_
                        case hw97159 => kernel_rfl
                        intro K hK
                        go_simp
                        refine hK _ _ ?_
                        clear hK K
                        refine @wpList_load_known _ _ _ _ _ _ _ ?hw97160 22 (.tmp 65) rfl (mb) (192) rfl (.agg s6) (HB6.out _ _ Rmb.out) ?_
                        case hw97160 => kernel_rfl
                        simp only [Act.put, List.setIfInBounds_toArray, List.set_cons_zero, List.set_cons_succ]
                        refine @BigFrame.wpList_want _ _ _ _ _ _ _ ?hw97161 ?_
                        case hw97161 => kernel_rfl
                        intro K hK
                        go_simp
                        refine hK _ _ ?_
                        clear hK K
                        refine @BigFrame.wpList_want _ _ _ _ _ _ _ ?hw97162 ?_
                        case hw97162 => kernel_rfl
                        intro K hK
                        go_simp
                        refine hK _ _ ?_
                        clear hK K
                        as_aux_lemma =>
                          go_upto_region 8 with fail
                          refine wp_region_lit ?_
                          refine @wpList_load_known _ _ _ _ _ _ _ ?hw97164 23 (.tmp 3) rfl (jb) (0) rfl (.agg jc) (HLJ.out _ _ Rjb.out) ?_
                          case hw97164 => kernel_rfl
                          simp only [Act.put, List.setIfInBounds_toArray, List.set_cons_zero, List.set_cons_succ]
                          refine @BigFrame.wpList_want _ _ _ _ _ _ _ ?hw97165 ?_
                          case hw97165 => kernel_rfl
                          intro K hK
                          go_simp
                          refine hK _ _ ?_
                          clear hK K
                          refine @BigFrame.wpList_want _ _ _ _ _ _ _ ?hw97163 ?_
                          case hw97163 => kernel_rfl
                          intro K hK
                          go_simp
                          go_at_call 12
                          refine (HAB.out _).mono ?_
                          rintro e x2 ⟨rfl, k2⟩
                          have X2 := Kw6.out.onto k2
                          refine hK _ _ ?_
                          clear hK K
                          refine @wpL_build0 _ _ _ _ _ _ _ ?hw97166 23 rfl _ (HB0.out _) ?_
                          case hw97166 => kernel_rfl
                          simp only [Act.put, List.setIfInBounds_toArray, List.set_cons_zero, List.set_cons_succ]
                          refine @BigFrame.wpList_want _ _ _ _ _ _ _ ?hw97167 ?_
                          case hw97167 => kernel_rfl
                          intro K hK
                          go_simp
                          refine hK _ _ ?_
                          clear hK K
                          refine @BigFrame.wpList_want _ _ _ _ _ _ _ ?hw97168 ?_
                          case hw97168 => kernel_rfl
                          intro K hK
                          go_simp
                          refine hK _ _ ?_
                          clear hK K
                          go_wp2
                          go_ret
                          exact ⟨rfl, X2⟩
    · have hd : decide (n < 0) = false := decide_eq_false (fun h => hn (.inl h))
      have hd2 : decide (n ≥ 64) = false := decide_eq_false (fun h => hn (.inr h))
      obtain ⟨m, rfl⟩ : ∃ m : Nat, n = (m : Int) := ⟨n.toNat, by omega⟩
      have hm : m < 64 := by omega
      have HP1 := Lib.hid (fun (x : World) (kk : Kept w.heap.size w.heap.size w x) => app_nil11 j hj m hm x (tab.onto11 kk))
      have HP2 := Lib.hid (fun x => refapp_calls11 j hj m hm x)
      have heq := fun x => mac_equalIn x (Ky.app j m) (Ky.app_length j m)
      generalize (bcells (Ky.app j m)).toArray = cu at HP1 HP2 heq
      generalize (bcells j).toArray = jc at HLJ HM1 HM2 HA0 HP1 HP2 heq0 ⊢
      clear hj tab hn hm hfl hz
      go_enter Tryd.func3, Tryd.ntmps3
      go_upto_region 0 with fail
      refine wp_region_lit ?_
      refine @BigFrame.wpList_want _ _ _ _ _ _ _ ?hw97091 ?_
      case hw97091 => kernel_rfl
      intro K hK
      go_simp
      refine hK _ _ ?_
      clear hK K
      have kn : Kept w.heap.size w.heap.size w (w.alloc (.cells jc 23)) := (Kept.refl _ _ _).alloc (Nat.le_refl _) _
      have rjb := heap_new w (.cells jc 23)
      have Kw1 := kn
      generalize w.alloc (.cells jc 23) = w1 at kn rjb Kw1  ⊢
      obtain ⟨jb, hjb⟩ : ∃ n, n = w.heap.size := ⟨_, rfl⟩
      rw [← hjb] at rjb
      (try rw [← hjb])
      clear hjb kn
      refine @BigFrame.wpList_want _ _ _ _ _ _ _ ?hw97092 ?_
      case hw97092 => kernel_rfl
      intro K hK
      go_simp
      refine hK _ _ ?_
      clear hK K
      have Rjb := Lib.hid rjb
      clear rjb
      have KW := Lib.hid Kw1
      clear Kw1
      go_upto_region 1 with fail
      refine wp_region_lit ?_
      refine @BigFrame.wpList_want _ _ _ _ _ _ _ ?hw97102 ?_
      case hw97102 => kernel_rfl
      intro K hK
      go_simp
      go_at_call 9
      refine (HAW.out _ KW.out).mono ?_
      rintro e x1 ⟨rfl, X1⟩
      refine hK _ _ ?_
      clear hK K
      refine @BigFrame.wpList_want _ _ _ _ _ _ _ ?hw97103 ?_
      case hw97103 => kernel_rfl
      intro K hK
      go_simp
      refine hK _ _ ?_
      clear hK K
      refine @BigFrame.wpList_want _ _ _ _ _ _ _ ?hw97104 ?_
      case hw97104 => kernel_rfl
      intro K hK
      go_simp
      refine hK _ _ ?_
      clear hK K
      refine @BigFrame.wpList_want _ _ _ _ _ _ _ ?hw97105 ?_
      case hw97105 => kernel_rfl
      intro K hK
      go_simp
      refine hK _ _ ?_
      clear hK K
      refine @BigFrame.wpList_want _ _ _ _ _ _ _ ?hw97106 ?_
      case hw97106 => kernel_rfl
      intro K hK
      go_simp
      refine hK _ _ ?_
      clear hK K
      refine @BigFrame.wpList_want _ _ _ _ _ _ _ ?hw97107 ?_
      case hw97107 => kernel_rfl
      intro K hK
      go_simp
      refine hK _ _ ?_
      clear hK K
      refine @BigFrame.wpList_want _ _ _ _ _ _ _ ?hw97108 ?_
      case hw97108 => kernel_rfl
      intro K hK
      go_simp
      refine hK _ _ ?_
      clear hK K
      have K1 := Lib.hid (KW.out.onto X1)
      replace Rjb := Lib.hid (row_kept Rjb.out X1)
      clear X1 KW
      as_aux_lemma =>
        go_upto_region 3 with fail
        refine wp_region_lit ?_
        refine @wpList_load_known _ _ _ _ _ _ _ ?hw97110 23 (.tmp 3) rfl (jb) (0) rfl (.agg jc) (HLJ.out _ _ Rjb.out) ?_
        case hw97110 => kernel_rfl
        simp only [Act.put, List.setIfInBounds_toArray, List.set_cons_zero, List.set_cons_succ]
        refine @BigFrame.wpList_want _ _ _ _ _ _ _ ?hw97111 ?_
        case hw97111 => kernel_rfl
        intro K hK
        go_simp
        refine hK _ _ ?_
        clear hK K
        refine @BigFrame.wpList_want _ _ _ _ _ _ _ ?hw97109 ?_
        case hw97109 => kernel_rfl
        intro K hK
        go_simp
        go_at_call 10
        refine (HM1.out _).mono ?_
        rintro e w3 ⟨rfl, k3⟩
        have K3 := Lib.hid (K1.out.onto k3)
        replace Rjb := Lib.hid (row_kept Rjb.out k3)
        clear k3 K1
        refine hK _ _ ?_
        clear hK K
        refine @wpL_alloc _ _ _ _ _ _ _ _ ?hw97112 26 rfl _ (alloc_secs _) ?_
        case hw97112 => kernel_rfl
        simp only [Act.put, List.setIfInBounds_toArray, List.set_cons_zero, List.set_cons_succ]
        refine wpList_store_row rfl 26 _ _ rfl (w3.heap.size) fu rfl rfl 26 zeros224 (heap_new _ _) (HIF.out) (HZF.out) (HAF.out) ?_
        simp only [Act.put]
        rw [World.setRow_alloc_new]
        have kn : Kept w3.heap.size w3.heap.size w3 (w3.alloc (.cells fu 26)) := (Kept.refl _ _ _).alloc (Nat.le_refl _) _
        have Rsb := Lib.hid (heap_new w3 (.cells fu 26))
        replace Rjb := Lib.hid (row_kept Rjb.out kn)
        have Kw4 := Lib.hid (K3.out.onto kn)
        clear kn
        generalize w3.alloc (.cells fu 26) = w4 at Rsb Kw4 Rjb ⊢
        generalize w3.heap.size = sb at Rsb ⊢
        as_aux_lemma =>
          go_upto_region 4 with fail
          refine wp_region_lit ?_
          refine @wpList_load_known _ _ _ _ _ _ _ ?hw97114 23 (.tmp 3) rfl (jb) (0) rfl (.agg jc) (HLJ.out _ _ Rjb.out) ?_
          case hw97114 => kernel_rfl
          simp only [Act.put, List.setIfInBounds_toArray, List.set_cons_zero, List.set_cons_succ]
          refine @BigFrame.wpList_want _ _ _ _ _ _ _ ?hw97115 ?_
          case hw97115 => kernel_rfl
          intro K hK
          go_simp
          refine hK _ _ ?_
          clear hK K
          refine @BigFrame.wpList_want _ _ _ _ _ _ _ ?hw97113 ?_
          case hw97113 => kernel_rfl
          intro K hK
          go_simp
          go_at_call 11
          refine (HM2.out _).mono ?_
          rintro e w5 ⟨rfl, k5⟩
          have K5 := Lib.hid (Kw4.out.onto k5)
          replace Rjb := Lib.hid (row_kept Rjb.out k5)
          replace Rsb := Lib.hid (row_kept Rsb.out k5)
          clear k5 Kw4
          refine hK _ _ ?_
          clear hK K
          refine @wpL_alloc _ _ _ _ _ _ _ _ ?hw97116 29 rfl _ (alloc_rsecs _) ?_
          case hw97116 => kernel_rfl
          simp only [Act.put, List.setIfInBounds_toArray, List.set_cons_zero, List.set_cons_succ]
          refine wpList_store_row rfl 29 _ _ rfl (w5.heap.size) fu rfl rfl 29 zeros224 (heap_new _ _) (HIR.out) (HZF.out) (HAF.out) ?_
          simp only [Act.put]
          rw [World.setRow_alloc_new]
          have kn : Kept w5.heap.size w5.heap.size w5 (w5.alloc (.cells fu 29)) := (Kept.refl _ _ _).alloc (Nat.le_refl _) _
          have Rmb := Lib.hid (heap_new w5 (.cells fu 29))
          replace Rjb := Lib.hid (row_kept Rjb.out kn)
          replace Rsb := Lib.hid (row_kept Rsb.out kn)
          have Kw6 := Lib.hid (K5.out.onto kn)
          clear kn
          generalize w5.alloc (.cells fu 29) = w6 at Rmb Kw6 Rjb Rsb ⊢
          generalize w5.heap.size = mb at Rmb ⊢
          as_aux_lemma =>
            go_upto_region 5 with fail
            refine wp_region_lit ?_
            refine @BigFrame.wpList_want _ _ _ _ _ _ _ ?hw97117 ?_
            case hw97117 => kernel_rfl
            intro K hK
            go_simp
            refine hK _ _ ?_
            clear hK K
            refine @wpList_load_known _ _ _ _ _ _ _ ?hw97118 23 (.tmp 23) rfl (sb) (0) rfl (.agg jc) (HA0.out _ _ Rsb.out) ?_
            case hw97118 => kernel_rfl
            simp only [Act.put, List.setIfInBounds_toArray, List.set_cons_zero, List.set_cons_succ]
            refine @wpList_load_known _ _ _ _ _ _ _ ?hw97119 23 (.tmp 3) rfl (jb) (0) rfl (.agg jc) (HLJ.out _ _ Rjb.out) ?_
            case hw97119 => kernel_rfl
            simp only [Act.put, List.setIfInBounds_toArray, List.set_cons_zero, List.set_cons_succ]
            refine @BigFrame.wpList_want _ _ _ _ _ _ _ ?hw97120 ?_
            case hw97120 => kernel_rfl
            intro K hK
            go_simp
            refine hK _ _ ?_
            clear hK K
            refine @BigFrame.wpList_want _ _ _ _ _ _ _ ?hw97121 ?_
            case hw97121 => kernel_rfl
            intro K hK
            go_simp
            refine hK _ _ ?_
            clear hK K
            refine @BigFrame.wpList_want _ _ _ _ _ _ _ ?hw97122 ?_
            case hw97122 => kernel_rfl
            intro K hK
            go_simp
            refine hK _ _ ?_
            clear hK K
            refine @wpList_load_known _ _ _ _ _ _ _ ?hw97123 23 (.tmp 28) rfl (sb) (32) rfl (.agg s1) (HA1.out _ _ Rsb.out) ?_
            case hw97123 => kernel_rfl
            simp only [Act.put, List.setIfInBounds_toArray, List.set_cons_zero, List.set_cons_succ]
            refine @BigFrame.wpList_want _ _ _ _ _ _ _ ?hw97124 ?_
            case hw97124 => kernel_rfl
            intro K hK
            go_simp
            refine hK _ _ ?_
            clear hK K
            refine @wpList_load_known _ _ _ _ _ _ _ ?hw97125 22 (.tmp 30) rfl (mb) (32) rfl (.agg s1) (HB1.out _ _ Rmb.out) ?_
            case hw97125 => kernel_rfl
            simp only [Act.put, List.setIfInBounds_toArray, List.set_cons_zero, List.set_cons_succ]
            refine @BigFrame.wpList_want _ _ _ _ _ _ _ ?hw97126 ?_
            case hw97126 => kernel_rfl
            intro K hK
            go_simp
            refine hK _ _ ?_
            clear hK K
            refine @BigFrame.wpList_want _ _ _ _ _ _ _ ?hw97127 ?_
            case hw97127 => kernel_rfl
            intro K hK
            go_simp
            refine hK _ _ ?_
            clear hK K
            refine @BigFrame.wpList_want _ _ _ _ _ _ _ ?hw97128 ?_
            case hw97128 => kernel_rfl
            intro K hK
            go_simp
            refine hK _ _ ?_
            clear hK K
            as_aux_lemma =>
              refine @BigFrame.wpList_want _ _ _ _ _ _ _ ?hw97129 ?_
              case hw97129 => kernel_rfl
              intro K hK
              go_simp
              refine hK _ _ ?_
              clear hK K
              refine @wpList_load_known _ _ _ _ _ _ _ ?hw97130 23 (.tmp 35) rfl (sb) (64) rfl (.agg s2) (HA2.out _ _ Rsb.out) ?_
              case hw97130 => kernel_rfl
              simp only [Act.put, List.setIfInBounds_toArray, List.set_cons_zero, List.set_cons_succ]
              refine @BigFrame.wpList_want _ _ _ _ _ _ _ ?hw97131 ?_
              case hw97131 => kernel_rfl
              intro K hK
              go_simp
              refine hK _ _ ?_
              clear hK K
              refine @wpList_load_known _ _ _ _ _ _ _ ?hw97132 22 (.tmp 37) rfl (mb) (64) rfl (.agg s2) (HB2.out _ _ Rmb.out) ?_
              case hw97132 => kernel_rfl
              simp only [Act.put, List.setIfInBounds_toArray, List.set_cons_zero, List.set_cons_succ]
              refine @BigFrame.wpList_want _ _ _ _ _ _ _ ?hw97133 ?_
              case hw97133 => kernel_rfl
              intro K hK
              go_simp
              refine hK _ _ ?_
              clear hK K
              refine @BigFrame.wpList_want _ _ _ _ _ _ _ ?hw97134 ?_
              case hw97134 => kernel_rfl
              intro K hK
              go_simp
              refine hK _ _ ?_
              clear hK K
              refine @BigFrame.wpList_want _ _ _ _ _ _ _ ?hw97135 ?_
              case hw97135 => kernel_rfl
              intro K hK
              go_simp
              refine hK _ _ ?_
              clear hK K
              as_aux_lemma =>
                refine @BigFrame.wpList_want _ _ _ _ _ _ _ ?hw97136 ?_
                case hw97136 => kernel_rfl
                intro K hK
                go_simp
                refine hK _ _ ?_
                clear hK K
                refine @wpList_load_known _ _ _ _ _ _ _ ?hw97137 23 (.tmp 42) rfl (sb) (96) rfl (.agg s3) (HA3.out _ _ Rsb.out) ?_
                case hw97137 => kernel_rfl
                simp only [Act.put, List.setIfInBounds_toArray, List.set_cons_zero, List.set_cons_succ]
                refine @BigFrame.wpList_want _ _ _ _ _ _ _ ?hw97138 ?_
                case hw97138 => kernel_rfl
                intro K hK
                go_simp
                refine hK _ _ ?_
                clear hK K
                refine @wpList_load_known _ _ _ _ _ _ _ ?hw97139 22 (.tmp 44) rfl (mb) (96) rfl (.agg s3) (HB3.out _ _ Rmb.out) ?_
                case hw97139 => kernel_rfl
                simp only [Act.put, List.setIfInBounds_toArray, List.set_cons_zero, List.set_cons_succ]
                refine @BigFrame.wpList_want _ _ _ _ _ _ _ ?hw97140 ?_
                case hw97140 => kernel_rfl
                intro K hK
                go_simp
                refine hK _ _ ?_
                clear hK K
                refine @BigFrame.wpList_want _ _ _ _ _ _ _ ?hw97141 ?_
                case hw97141 => kernel_rfl
                intro K hK
                go_simp
                refine hK _ _ ?_
                clear hK K
                refine @BigFrame.wpList_want _ _ _ _ _ _ _ ?hw97142 ?_
                case hw97142 => kernel_rfl
                intro K hK
                go_simp
                refine hK _ _ ?_
                clear hK K
                as_aux_lemma =>
                  refine @BigFrame.wpList_want _ _ _ _ _ _ _ ?hw97143 ?_
                  case hw97143 => kernel_rfl
                  intro K hK
                  go_simp
                  refine hK _ _ ?_
                  clear hK K
                  refine @wpList_load_known _ _ _ _ _ _ _ ?hw97144 23 (.tmp 49) rfl (sb) (128) rfl (.agg s4) (HA4.out _ _ Rsb.out) ?_
                  case hw97144 => kernel_rfl
                  simp only [Act.put, List.setIfInBounds_toArray, List.set_cons_zero, List.set_cons_succ]
                  refine @BigFrame.wpList_want _ _ _ _ _ _ _ ?hw97145 ?_
                  case hw97145 => kernel_rfl
                  intro K hK
                  go_simp
                  refine hK _ _ ?_
                  clear hK K
                  refine @wpList_load_known _ _ _ _ _ _ _ ?hw97146 22 (.tmp 51) rfl (mb) (128) rfl (.agg s4) (HB4.out _ _ Rmb.out) ?_
                  case hw97146 => kernel_rfl
                  simp only [Act.put, List.setIfInBounds_toArray, List.set_cons_zero, List.set_cons_succ]
                  refine @BigFrame.wpList_want _ _ _ _ _ _ _ ?hw97147 ?_
                  case hw97147 => kernel_rfl
                  intro K hK
                  go_simp
                  refine hK _ _ ?_
                  clear hK K
                  refine @BigFrame.wpList_want _ _ _ _ _ _ _ ?hw97148 ?_
                  case hw97148 => kernel_rfl
                  intro K hK
                  go_simp
                  refine hK _ _ ?_
                  clear hK K
                  refine @BigFrame.wpList_want _ _ _ _ _ _ _ ?hw97149 ?_
                  case hw97149 => kernel_rfl
                  intro K hK
                  go_simp
                  refine hK _ _ ?_
                  clear hK K
                  as_aux_lemma =>
                    refine @BigFrame.wpList_want _ _ _ _ _ _ _ ?hw97150 ?_
                    case hw97150 => kernel_rfl
                    intro K hK
                    go_simp
                    refine hK _ _ ?_
                    clear hK K
                    refine @wpList_load_known _ _ _ _ _ _ _ ?hw97151 23 (.tmp 56) rfl (sb) (160) rfl (.agg s5) (HA5.out _ _ Rsb.out) ?_
                    case hw97151 => kernel_rfl
                    simp only [Act.put, List.setIfInBounds_toArray, List.set_cons_zero, List.set_cons_succ]
                    refine @BigFrame.wpList_want _ _ _ _ _ _ _ ?hw97152 ?_
                    case hw97152 => kernel_rfl
                    intro K hK
                    go_simp
                    refine hK _ _ ?_
                    clear hK K
                    refine @wpList_load_known _ _ _ _ _ _ _ ?hw97153 22 (.tmp 58) rfl (mb) (160) rfl (.agg s5) (HB5.out _ _ Rmb.out) ?_
                    case hw97153 => kernel_rfl
                    simp only [Act.put, List.setIfInBounds_toArray, List.set_cons_zero, List.set_cons_succ]
                    refine @BigFrame.wpList_want _ _ _ _ _ _ _ ?hw97154 ?_
                    case hw97154 => kernel_rfl
                    intro K hK
                    go_simp
                    refine hK _ _ ?_
                    clear hK K
                    refine @BigFrame.wpList_want _ _ _ _ _ _ _ ?hw97155 ?_
                    case hw97155 => kernel_rfl
                    intro K hK
                    go_simp
                    refine hK _ _ ?_
                    clear hK K
                    refine @BigFrame.wpList_want _ _ _ _ _ _ _ ?hw97156 ?_
                    case hw97156 => kernel_rfl
                    intro K hK
                    go_simp
                    refine hK _ _ ?_
                    clear hK K
                    as_aux_lemma =>
                      refine @BigFrame.wpList_want _ _ _ _ _ _ _ ?hw97157 ?_
                      case hw97157 => kernel_rfl
                      intro K hK
                      go_simp
                      refine hK _ _ ?_
                      clear hK K
                      refine @wpList_load_known _ _ _ _ _ _ _ ?hw97158 23 (.tmp 63) rfl (sb) (192) rfl (.agg s6) (HA6.out _ _ Rsb.out) ?_
                      case hw97158 => kernel_rfl
                      simp only [Act.put, List.setIfInBounds_toArray, List.set_cons_zero, List.set_cons_succ]
                      refine @BigFrame.wpList_want _ _ _ _ _ _ _ ?hw97159 ?_
                      case hw97159 => kernel_rfl
                      intro K hK
                      go_simp
                      refine hK _ _ ?_
                      clear hK K
                      refine @wpList_load_known _ _ _ _ _ _ _ ?hw97160 22 (.tmp 65) rfl (mb) (192) rfl (.agg s6) (HB6.out _ _ Rmb.out) ?_
                      case hw97160 => kernel_rfl
                      simp only [Act.put, List.setIfInBounds_toArray, List.set_cons_zero, List.set_cons_succ]
                      refine @BigFrame.wpList_want _ _ _ _ _ _ _ ?hw97161 ?_
                      case hw97161 => kernel_rfl
                      intro K hK
                      go_simp
                      refine hK _ _ ?_
                      clear hK K
                      refine @BigFrame.wpList_want _ _ _ _ _ _ _ ?hw97162 ?_
                      case hw97162 => kernel_rfl
                      intro K hK
                      go_simp
                      refine hK _ _ ?_
                      clear hK K
                      as_aux_lemma =>
                        have LJ := Lib.hid (fun (x : World) (k : Kept w6.heap.size w6.heap.size w6 x) => HLJ.out x jb (row_kept Rjb.out k))
                        have KD : Kept w6.heap.size w6.heap.size w6 w6.drew := (Kept.refl _ _ _).drew
                        go_upto_region 9 with fail
                        refine wp_region_noPanic ?_
                        refine wp_region_held_drew (S := fun w' => Kept w6.heap.size w6.heap.size w6 w') (by kernel_rfl) (KD) (fun hH => ?_)
                        refine wpAnyH_take_at (i := 0) 80 (.agg jc) rfl rfl (by kernel_rfl) (by kernel_rfl) (by kernel_rfl) (fun _ _ _ h => h) (yieldsIf_load_known (by kernel_rfl) 23 _ rfl (jb) (0) rfl (.agg jc) (LJ.out)) hH ?_
                        simp only [List.setIfInBounds_toArray, List.set_cons_zero, List.set_cons_succ]
                        refine wpAnyH_take_ex (i := 1) 81 rfl rfl (by kernel_rfl) (by kernel_rfl) (by kernel_rfl) (fun _ _ _ _ h => h) (by kernel_rfl) hH ?_
                        apply Exists.intro
                        apply And.intro
                        · intro w9 _
                          go_simp
                          first | done | rfl
                        simp only [List.setIfInBounds_toArray, List.set_cons_zero, List.set_cons_succ]
                        refine wpAnyH_take_at (i := 3) 83 (.agg jc) rfl rfl (by kernel_rfl) (by kernel_rfl) (by kernel_rfl) (fun _ _ _ h => h) (yieldsIf_load_known (by kernel_rfl) 23 _ rfl (jb) (0) rfl (.agg jc) (LJ.out)) hH ?_
                        simp only [List.setIfInBounds_toArray, List.set_cons_zero, List.set_cons_succ]
                        refine wpAnyH_take_ex (i := 4) 84 rfl rfl (by kernel_rfl) (by kernel_rfl) (by kernel_rfl) (fun _ _ _ _ h => h) (by kernel_rfl) hH ?_
                        apply Exists.intro
                        apply And.intro
                        · intro w9 _
                          go_simp
                          first | done | rfl
                        simp only [List.setIfInBounds_toArray, List.set_cons_zero, List.set_cons_succ]
                        refine wpAnyH_ready (rs := [2]) (by kernel_rfl) (by simp) ?_
                        refine AllReadyH.cons rfl (fun K hK => ?_) AllReadyH.nil
                        rw [if_pos (by rfl)]
                        go_simp
                        go_wp2_with (go_at_call 12; refine (HP1.out _ (Kw6.out.onto KD)).mono ?_; rintro e y2 ⟨rfl, ky2⟩)
                        have Y2 : Kept w6.heap.size w6.heap.size w6 y2 := KD.trans (ky2.mono KD.size (fun i hi _ => Nat.ne_of_lt (Nat.lt_of_lt_of_le hi KD.size)))
                        refine hK.out _ _ (Y2) (fun hH => ?_)
                        clear hK K
                        refine wpAnyH_ready (rs := [5]) (by kernel_rfl) (by simp) ?_
                        refine AllReadyH.cons rfl (fun K hK => ?_) AllReadyH.nil
                        rw [if_pos (by rfl)]
                        go_simp
                        go_wp2_with (go_at_call 13; refine (HP2.out _).mono ?_; rintro e y3 ⟨rfl, ky3⟩)
                        have Y3 : Kept w6.heap.size w6.heap.size w6 y3 := Y2.trans (ky3.mono Y2.size (fun i hi _ => Nat.ne_of_lt (Nat.lt_of_lt_of_le hi Y2.size)))
                        refine hK.out _ _ (Y3) (fun hH => ?_)
                        clear hK K
                        refine wpAnyH_take_ex (i := 6) 86 rfl rfl (by kernel_rfl) (by kernel_rfl) (by kernel_rfl) (fun _ _ _ _ h => h) (by kernel_rfl) hH ?_
                        apply Exists.intro
                        apply And.intro
                        · intro w9 _
                          go_simp
                          first | done | rfl
                        simp only [List.setIfInBounds_toArray, List.set_cons_zero, List.set_cons_succ]
                        refine wpAnyH_take_ex (i := 7) 6 rfl rfl (by kernel_rfl) (by kernel_rfl) (by kernel_rfl) (fun _ _ _ _ h => h) (by kernel_rfl) hH ?_
                        apply Exists.intro
                        apply And.intro
                        · intro w9 _
                          go_simp
                          first | done | rfl
                        simp only [List.setIfInBounds_toArray, List.set_cons_zero, List.set_cons_succ]
                        refine wpAnyH_done (by kernel_rfl) ?_ _
                        refine NoPanic.normal ?_
                        go_wp2
                        go_ret
                        exact ⟨rfl, Kw6.out.onto Y3⟩
  · have hl : decide ((cc.size : Int) > 5000) = true := decide_eq_true (by omega)
    generalize (bcells j).toArray = jc at HLJ ⊢
    clear hj tab hz
    go_enter Tryd.func3, Tryd.ntmps3
    go_upto_region 0 with fail
    refine wp_region_lit ?_
    refine @BigFrame.wpList_want _ _ _ _ _ _ _ ?hw97091 ?_
    case hw97091 => kernel_rfl
    intro K hK
    go_simp
    refine hK _ _ ?_
    clear hK K
    have kn : Kept w.heap.size w.heap.size w (w.alloc (.cells jc 23)) := (Kept.refl _ _ _).alloc (Nat.le_refl _) _
    have rjb := heap_new w (.cells jc 23)
    have Kw1 := kn
    generalize w.alloc (.cells jc 23) = w1 at kn rjb Kw1  ⊢
    obtain ⟨jb, hjb⟩ : ∃ n, n = w.heap.size := ⟨_, rfl⟩
    rw [← hjb] at rjb
    (try rw [← hjb])
    clear hjb kn
    refine @BigFrame.wpList_want _ _ _ _ _ _ _ ?hw97092 ?_
    case hw97092 => kernel_rfl
    intro K hK
    go_simp
    refine hK _ _ ?_
    clear hK K
    have Rjb := Lib.hid rjb
    clear rjb
    have KW := Lib.hid Kw1
    clear Kw1
    go_upto_region 1 with fail
    refine wp_region_lit ?_
    refine @BigFrame.wpList_want _ _ _ _ _ _ _ ?hw97093 ?_
    case hw97093 => kernel_rfl
    intro K hK
    go_simp
    go_at_call 9
    refine (HAW.out _ KW.out).mono ?_
    rintro e x1 ⟨rfl, X1⟩
    refine hK _ _ ?_
    clear hK K
    refine @BigFrame.wpList_want _ _ _ _ _ _ _ ?hw97094 ?_
    case hw97094 => kernel_rfl
    intro K hK
    go_simp
    refine hK _ _ ?_
    clear hK K
    refine @BigFrame.wpList_want _ _ _ _ _ _ _ ?hw97095 ?_
    case hw97095 => kernel_rfl
    intro K hK
    go_simp
    refine hK _ _ ?_
    clear hK K
    refine @BigFrame.wpList_want _ _ _ _ _ _ _ ?hw97096 ?_
    case hw97096 => kernel_rfl
    intro K hK
    go_simp
    refine hK _ _ ?_
    clear hK K
    refine @BigFrame.wpList_want _ _ _ _ _ _ _ ?hw97097 ?_
    case hw97097 => kernel_rfl
    intro K hK
    go_simp
    refine hK _ _ ?_
    clear hK K
    refine @BigFrame.wpList_want _ _ _ _ _ _ _ ?hw97098 ?_
    case hw97098 => kernel_rfl
    intro K hK
    go_simp
    refine hK _ _ ?_
    clear hK K
    refine @BigFrame.wpList_want _ _ _ _ _ _ _ ?hw97099 ?_
    case hw97099 => kernel_rfl
    intro K hK
    go_simp
    refine hK _ _ ?_
    clear hK K
    go_upto_region 2 with fail
    refine wp_region_lit ?_
    refine @BigFrame.wpList_want _ _ _ _ _ _ _ ?hw97100 ?_
    case hw97100 => kernel_rfl
    intro K hK
    go_simp
    go_at_call 9
    refine (HAW.out _ (KW.out.onto X1)).mono ?_
    rintro e x2 ⟨rfl, k2⟩
    have X2 := X1.onto k2
    refine hK _ _ ?_
    clear hK K
    refine @BigFrame.wpList_want _ _ _ _ _ _ _ ?hw97101 ?_
    case hw97101 => kernel_rfl
    intro K hK
    go_simp
    refine hK _ _ ?_
    clear hK K
    go_wp2
    go_ret
    exact ⟨rfl, KW.out.onto X2⟩

end Go.Proofs.YtdfbmijbmlainaaDoor
