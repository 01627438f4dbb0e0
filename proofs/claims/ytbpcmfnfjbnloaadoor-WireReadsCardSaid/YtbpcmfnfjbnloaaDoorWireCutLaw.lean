/-
  The walk of the statement WireCut: bytes that were put, cut off anywhere, fail where something is missing.
-/
import Derived.Test.YtbpcmfnfjbnloaaDoorWireCutMath
import Derived.BigQuiet
import Derived.Deep.QuietTactic
import Derived.Deep.RegionHeld3
namespace Go.Proofs.YtbpcmfnfjbnloaaDoor
open Go.RowKit

theorem err_same (b : Nat) (x : Int) (w : World) (h : w.cell? ⟨b, 1, none⟩ = some (.int .i64 x)) : Calls Tryd.prog 27 #[.pointer (some ⟨b, 0, none⟩)] w fun e w' => e = .returned (.int .i64 x) ∧ w' = w :=
  (err_cell b x w h).mono fun _ _ ⟨h1, h2⟩ => ⟨h1, h2.symm⟩
theorem store_list (w : World) (t : TypeId) (z : Array Value) (A : List Value) (hz : z.size = A.length) (h1 : A.toArray.all (·.oneCell') = true) : (storeCells ⟨w.heap.size, 0, none⟩ A).run Tryd.prog (w.alloc (.cells z t)) = .ok () (w.alloc (.cells A.toArray t)) := by
  have := store_new w t z A.toArray (by simpa using hz) h1
  exact this

/-- A whole array read in a region that only reads. -/
theorem wpQuiet_load_mid {P : Program} {ops : Array Oper} {C : World → Prop} {Q : Act → Prop} {a : Act} {o : Oper} {rest : List Oper} (ty : TypeId) (x : Operand) (ho : o.op = .load ty x) (b off : Nat) (hx : a.eval x = .pointer (some ⟨b, off, none⟩)) (cs : List Value) (d : TypeDesc)
    (hc : ∀ w, C w → w.rangeAt b off cs) (hu : P.underlying ty = some d) (hd : d.isRow = true) (hi : (P.info? ty).map (·.size) = some cs.length) (hw : Region.wanted o (yielded ops a.tmps) = true)
    (h : wpQuiet P ops C Q rest (a.put o.dst (.agg cs.toArray))) : wpQuiet P ops C Q (o :: rest) a :=
  wpQuiet_step fun K hK => by
    rw [if_pos hw]
    refine ⟨.agg cs.toArray, fun w hw' => ?_, hK _ h⟩
    unfold Oper.quietAt execOp
    simp only [ho, hx, Instr.loadAt, Instr.sureAddr, Sem.run_bind, Sem.run_pure, Result.andThen_ok, run_loadVar_mid w b off ty cs d (hc w hw') hu hd hi]
    exact ⟨rfl, rfl⟩

/-- Where the bytes are cut off. -/
theorem cut_place (cut : Int) (n : Nat) (hn : 0 < n) (hn2 : n ≤ 1000000000) : ∃ m : Nat, m < n ∧ wrap64 ((IntKind.u64.wrap cut).tmod (n : Int)) = (m : Int) := by
  have h0 : 0 ≤ IntKind.u64.wrap cut := by rw [IntKind.wrap_u64]; omega
  obtain ⟨a, ha⟩ := Int.eq_ofNat_of_zero_le h0
  refine ⟨a % n, Nat.mod_lt _ hn, ?_⟩
  have hlt := Nat.mod_lt a hn
  rw [ha, Int.tmod_eq_emod_of_nonneg (by omega)]
  rw [IntWalk.wrap64_in _ ⟨by omega, by omega⟩]
  simp

set_option maxHeartbeats 3200000 in
set_option maxRecDepth 100000 in
theorem cut_walk (v : Value) (len : Nat) (T : Nat → Th) (cut : Int) (w : World) (ht : Tab w) (h : Things w v len T) :
    Calls Tryd.prog 7 #[v, .int .i64 cut] w fun e w' => e = .returned (.bool true) ∧ Kept w.heap.size w.heap.size w w' := by
  have hpos := ht.lt
  obtain ⟨ao, cap, rfl, hex⟩ := h.ex
  have Hex := Lib.hid hex
  clear hex
  obtain ⟨U, hU⟩ : ∃ U : Nat → Th, U = fun i => tcut (T i) := ⟨_, rfl⟩
  have hUi := Lib.hid (fun i => congrFun hU i)
  clear hU
  go_enter Tryd.func7, Tryd.ntmps7
  go_wp2_with fail
  refine (awake_calls _ ht).mono ?_
  rintro e w1 ⟨rfl, k1⟩
  go_wp2_with fail
  refine (few_any _ len T _ (h.same k1)).mono ?_
  rintro e w2 ⟨bb, rfl, hlen, rfl⟩
  have hs1 := k1.size
  cases bb with
  | false =>
    go_wp2_with fail
    refine (awake_calls _ (ht.kept k1 hpos hpos)).mono ?_
    rintro e w2 ⟨rfl, k2⟩
    go_wp2
    go_ret
    exact ⟨rfl, k1.out k2 hs1 hs1⟩
  | true =>
    have hlen3 := hlen rfl
    clear hlen
    go_wp2_with fail
    refine (new_calls _).mono ?_
    rintro e w3 ⟨rfl, h3, k3, s3⟩
    have kk := k1.out k3 hs1 hs1
    have hs3 := kk.size
    go_wp2_with fail
    go_loopw [6] (fun i wr => ∃ (k : Nat) (st : Option (List UInt8)), k ≤ len ∧ i = .int .i64 k ∧ Hid (Short st (65544 * k)) ∧ Wrote (allOk U k) (cat U k) st ∧ WrV wr (w1.heap.size + 1) w1.heap.size (.pointer (some ⟨w1.heap.size, 0, none⟩)) st ∧ Kept w.heap.size w.heap.size w wr ∧ w1.heap.size + 1 ≤ wr.heap.size) (fun i _ => len - (intOf i).toNat)
    case atStart => exact ⟨0, some [], by omega, rfl, Lib.hid (fun l hl => by cases hl; simp), ⟨fun _ => rfl, fun e => by cases e⟩, .inr ⟨rfl, h3⟩, kk, by omega⟩
    case round =>
      obtain ⟨k, st, hk, rfl, HS, hwr, hw, kr, hsr⟩ := hrel
      by_cases hlt : k < len
      · obtain ⟨gb, o, cap2, hv, hok, hlm, hr⟩ := things_at (h.same kr) (by omega)
        cases hv
        have ok := hok k hlt
        have hr := hr k hlt
        have okU : (U k).Ok := by rw [hUi.out]; exact tcut_ok _ ok
        have Hst := Lib.hid (hwr.step (U k))
        have HS2 : Hid (Short (pTh st (U k)) (65544 * (k + 1))) := Lib.hid (by have := short_th st (U k) okU _ HS.out; rwa [show 65544 * (k + 1) = 65544 * k + 65544 by omega])
        have HS3 : Hid (Short st 700000000) := Lib.hid (fun l hl => by have := HS.out l hl; omega)
        have c0 : wr.cell? ⟨gb, o + k * 36, none⟩ = some (.int .u8 (T k).kind) := by simpa using mid_cell hr (T k).cell0
        have c2 := mid_cell hr (T k).cell2
        have Hh := Lib.hid (mid_hash (T k) hr)
        have hs32 := ok.h
        have hss := ok.s
        have hkd := ok.kind
        have Hx : Hid ((T k).kind % 2 = 1 → pText st (T k).s.data.toList = pTh st (U k)) := Lib.hid (fun hk2 => by
          have := pTh_text st (U k) (by rw [hUi.out]; exact tcut_text _ hk2)
          rw [hUi.out] at this ⊢
          exact this)
        have Hhs : Hid ((T k).kind % 2 = 0 → pRaw st (T k).h = pTh st (U k)) := Lib.hid (fun hk2 => by
          have := pTh_hash st (U k) (by rw [hUi.out]; exact tcut_hash _ hk2)
          rw [hUi.out] at this ⊢
          exact this)
        have hbl : (bcells (T k).h).length = 32 := by rw [bcells_length, hs32]
        clear hr hok hwr okU
        have htab := ht.kept kr hpos hpos
        rcases (show (T k).kind % 2 = 0 ∨ (T k).kind % 2 = 1 by omega) with hk4 | hk4
        · have hmod : ((T k).kind : Int) % 2 = 0 := by omega
          have hst2 := Lib.hid (Hhs.out hk4)
          clear hk4
          go_wp2_with (with_reducible refine wpList_load_mid rfl 30 _ rfl gb (o + k * 36 + 3) rfl (bcells (T k).h) _ Hh.out Tryd.underlying30 rfl (by rw [wireInfo30, hbl]) ?_)
          refine (whash_v _ _ _ st (T k).h hs32 _ hw (fun l hl => by have := HS3.out l hl; omega)).mono ?_
          rintro e w4 ⟨rfl, h4, k4⟩
          rw [hst2.out] at h4
          have hs4 := k4.size
          go_wp2
          go_roundw
          case rel => exact ⟨k + 1, pTh st (U k), by omega, by go_num, HS2, by rw [allOk, cat]; exact Hst.out, h4, kr.out k4 (by omega) hs1, by omega⟩
          case measure => simp [intOf]; omega
        · have hmod : ((T k).kind : Int) % 2 = 1 := by omega
          have hst2 := Lib.hid (Hx.out hk4)
          clear hk4
          go_wp2_with fail
          refine (wtext_v _ _ _ st (T k).s _ hw htab hss (fun l hl => by have := HS3.out l hl; omega)).mono ?_
          rintro e w4 ⟨rfl, h4, k4⟩
          rw [hst2.out] at h4
          have hs4 := k4.size
          go_wp2
          go_roundw
          case rel => exact ⟨k + 1, pTh st (U k), by omega, by go_num, HS2, by rw [allOk, cat]; exact Hst.out, h4, kr.out k4 (by omega) hs1, by omega⟩
          case measure => simp [intOf]; omega
      · obtain rfl : k = len := by omega
        have hw2 : Wr wr (w1.heap.size + 1) w1.heap.size st := by
          rcases hw with ⟨h, _⟩ | ⟨_, h⟩
          · cases h
          · exact h
        have hwo9 : w.heap.size ≤ wr.heap.size := kr.size
        clear hw
        cases hg : allOk U k with
        | false =>
          rw [hwr.2 hg] at hw2
          clear hwr hg HS
          go_wp2_with fail
          refine (wend_bad _ _ _ hw2).mono ?_
          rintro e w4 ⟨rfl, rfl⟩
          go_wp2
          go_ret
          exact ⟨rfl, kr⟩
        | true =>
          have hst := hwr.1 hg
          have hbound := HS.out _ hst
          rw [hst] at hw2
          have Hall := Lib.hid (allOk_at U k hg)
          have Hcat := Lib.hid (cat_all U k)
          clear hwr hg HS hst
          obtain ⟨S, hS⟩ : ∃ S, S = cat U k := ⟨_, rfl⟩
          rw [← hS] at hw2 hbound Hcat
          clear hS
          by_cases h0 : S.length = 0
          · obtain rfl : S = [] := List.eq_nil_of_length_eq_zero h0
            clear h0
            go_wp2_with fail
            refine (wend_ok _ _ _ _ hw2).mono ?_
            rintro e w4 ⟨rfl, rfl⟩
            go_wp2
            go_ret
            exact ⟨rfl, kr⟩
          · have hSpos : 0 < S.length := by omega
            have hb0 : ((S.length : Int) == 0) = false := by simpa using h0
            clear h0
            go_wp2_with fail
            refine (wend_ok _ _ _ _ hw2).mono ?_
            rintro e w4 ⟨rfl, rfl⟩
            clear hw2
            obtain ⟨n, hn, hcut⟩ := cut_place cut S.length hSpos (by omega)
            have hsub : ((str S).extract 0 n) = str (S.take n) := by
              apply ByteArray.ext
              simp [ByteArray.data_extract]
            have Hsub := Lib.hid hsub
            clear hsub
            go_wp2_with fail
            refine (from_calls _ _).mono ?_
            rintro e w5 ⟨rfl, h5, k5, s5⟩
            have h5 : Rd w5 (wr.heap.size + 2) (wr.heap.size + 1) (S.take n) 0 := by
              rw [Hsub.out] at h5
              exact h5
            have kr5 := kr.out k5 (by omega) (by omega)
            have hCut : Cut (rest U 0 (k - 0)) (S.take n) 0 := .inl ⟨rfl, n, by rw [Nat.sub_zero, ← Hcat.out], by rw [Nat.sub_zero, ← Hcat.out]; exact hn⟩
            clear hcut Hsub hbound hSpos hb0 hn Hcat hsr s5 k5
            obtain ⟨wo, hwo⟩ : ∃ wo : Nat, wo = wr.heap.size := ⟨_, rfl⟩
            have hwo9 : w.heap.size ≤ wo := by omega
            rw [← hwo] at h5 ⊢
            clear hwo
            go_wp2_with fail
            go_loopw [11] (fun i w9 => ∃ (j : Nat) (l : List UInt8) (e : Int), j ≤ k ∧ i = .int .i64 j ∧ Rd w9 (wo + 2) (wo + 1) l e ∧ Cut (rest U j (k - j)) l e ∧ Kept w.heap.size w.heap.size w w9 ∧ w.heap.size ≤ wo) (fun i _ => k - (intOf i).toNat)
            case atStart => exact ⟨0, _, _, by omega, rfl, h5, hCut, kr5, hwo9⟩
            case round =>
              obtain ⟨j, l, e0, hj, rfl, hR, hC, kr9, hwo⟩ := hrel
              by_cases hlt : j < k
              · obtain ⟨gb, o, cap2, hv, hok, hlm, hr⟩ := things_at (h.same kr9) (by omega)
                cases hv
                have ok := hok j hlt
                have hr := hr j hlt
                have c0 : wr.cell? ⟨gb, o + j * 36, none⟩ = some (.int .u8 (T j).kind) := by simpa using mid_cell hr (T j).cell0
                have Hc2 := Lib.hid (mid_cell hr (T j).cell2)
                have Hh := Lib.hid (mid_hash (T j) hr)
                have hgb : gb < wr.heap.size := World.block_lt_of_cell? _ _ c0
                have hgw : gb < w.heap.size := by
                  obtain ⟨g9, o9, he9, hg9, _⟩ := Hex.out (by omega)
                  cases he9
                  exact hg9
                have h32 := ok.h
                have hss := ok.s
                have hkd := ok.kind
                obtain ⟨x, hx⟩ := Hall.out j hlt
                have hrest := rest_at U j k hlt
                rw [hx] at hrest
                have hC : Cut (x ++ rest U (j + 1) (k - (j + 1))) l e0 := by rw [show x ++ rest U (j + 1) (k - (j + 1)) = rest U j (k - j) from hrest.symm]; exact hC
                clear hr hok hrest
                generalize hrr : rest U (j + 1) (k - (j + 1)) = rr at hC
                have Hrr := Lib.hid hrr
                clear hrr
                rcases (show (T j).kind % 2 = 0 ∨ (T j).kind % 2 = 1 by omega) with hk4 | hk4
                · have hmod : ((T j).kind : Int) % 2 = 0 := by omega
                  have hxh : x = (T j).h := by
                    have := bytes_hash (U j) (by rw [hUi.out]; exact tcut_hash _ hk4)
                    rw [hx, hUi.out] at this
                    exact Option.some.inj this
                  have hcut := cut_hash x rr l e0 (by rw [hxh]; exact h32) hC
                  rw [hxh] at hcut
                  have hl32 := gHash_length l e0
                  clear hk4 hx hC
                  go_wp2_with fail
                  refine (hash_all _ _ l e0 _ hR).mono ?_
                  rintro e w6 ⟨rfl, h6, k6⟩
                  generalize gHash l e0 = r at *
                  have hs6 := k6.size
                  obtain ⟨A, hA⟩ : ∃ A, A = bcells r.val := ⟨_, rfl⟩
                  have hAl : A.length = 32 := by rw [hA, bcells_length]; exact hl32
                  have hsz : A.toArray.size = 32 := by simpa using hAl
                  have hall : A.toArray.all (·.oneCell') = true := by rw [hA]; exact bcells_all _
                  have Hbx := Lib.hid (heap_new w6 (.cells A.toArray 30))
                  have k7 : Kept w6.heap.size w6.heap.size w6 (w6.alloc (.cells A.toArray 30)) := (Kept.refl _ _ _).alloc (Nat.le_refl _) _
                  have h7 := h6.alloc (.cells A.toArray 30)
                  have Hh7 : Hid ((w6.alloc (.cells A.toArray 30)).rangeAt gb (o + j * 36 + 3) (bcells (T j).h)) := Lib.hid (fun i u hu => by
                    rw [k7.cell (p := ⟨gb, o + j * 36 + 3 + i, none⟩) (by show gb < _; omega) (by show gb ≠ _; omega), k6.cell (p := ⟨gb, o + j * 36 + 3 + i, none⟩) hgb (by show gb ≠ _; omega)]
                    exact Hh.out i u hu)
                  have hsz7 : (w6.alloc (.cells A.toArray 30)).heap.size = w6.heap.size + 1 := by simp
                  rw [← hA]
                  have HA := Lib.hid hA
                  clear hA
                  go_wp2_with fail
                  rw [store_list w6 30 _ A (by rw [hAl]; rfl) hall]
                  clear hall hsz
                  generalize hw7 : w6.alloc (.cells A.toArray 30) = w7 at *
                  clear hw7
                  have kr6 := kr9.out k6 kr9.size (by omega)
                  have kr7 := kr6.out k7 kr6.size kr6.size
                  have hm := wireGuard30
                  have h7c := h7.cells
                  by_cases he : r.err = 0
                  · have hval := hcut.1 he
                    have hAT : A = bcells (T j).h := by rw [HA.out, hval]
                    have hr1 : w7.rangeAt w6.heap.size 0 A := fun i u hu => by
                      have := cell_of_row w7 w6.heap.size (0 + i) A.toArray 30 (0, 0) Hbx.out
                      rw [this, Nat.zero_add]
                      simpa using hu
                    have hr2 : w7.rangeAt gb (o + j * 36 + 3) A := by rw [hAT]; exact Hh7.out
                    have heq : ∀ w, (Op.equalIn 10000 30 (.agg A.toArray) (.agg A.toArray)).run Tryd.prog w = .ok true w := fun w => by
                      have := hash_equalIn w (T j).h (T j).h h32 h32
                      rw [beq_self_eq_true] at this
                      rw [hAT]
                      exact this
                    have hu := Tryd.underlying30
                    have hi : (Tryd.prog.info? 30).map (·.size) = some A.length := by rw [wireInfo30, hAl]
                    rw [he] at h7c h7 hcut
                    have Hcut := Lib.hid hcut.2
                    clear hval hAT hAl hcut he c0
                    go_wp2_with fail
                    refine wp_region_quiet_lit (by kernel_rfl) (by kernel_rfl) ?_
                    repeat (first
                      | (refine wpQuiet_load_mid 30 _ rfl w6.heap.size 0 rfl A _ (fun w' ⟨n, hn⟩ => by rw [hn]; exact hr1) hu rfl hi rfl ?_; go_simp)
                      | (refine wpQuiet_load_mid 30 _ rfl gb (o + j * 36 + 3) rfl A _ (fun w' ⟨n, hn⟩ => by rw [hn]; exact hr2) hu rfl hi rfl ?_; go_simp)
                      | go_big_quiet_step ((go_at_call 27; exact Calls.quiet_of_same (err_same (wo + 1) 0 _ (by exact h7c)))))
                    intro nq
                    go_wp2
                    go_roundw
                    case rel => exact ⟨j + 1, r.left, 0, by omega, by go_num, h7.same (Nat.le_refl _) (fun _ _ => rfl), by rw [Hrr.out]; exact Hcut.out, kr7.drewN nq, hwo⟩
                    case measure => simp [intOf]; omega
                  · have he2 : r.err = 2 := by
                      rcases hcut.2 with ⟨h, _⟩ | ⟨h, _⟩
                      · exact absurd h he
                      · exact h
                    rw [he2] at h7c h7 hcut
                    have Hcut := Lib.hid hcut.2
                    clear hcut he he2 c0
                    go_wp2_with fail
                    go_quiet ((go_at_call 27; exact Calls.quiet_of_same (err_same (wo + 1) 2 _ (by exact h7c))))
                    go_wp2
                    go_roundw
                    case rel => exact ⟨j + 1, r.left, 2, by omega, by go_num, h7.same (Nat.le_refl _) (fun _ _ => rfl), by rw [Hrr.out]; exact Hcut.out, kr7.drewN nq, hwo⟩
                    case measure => simp [intOf]; omega
                · have hmod : ((T j).kind : Int) % 2 = 1 := by omega
                  have hxt : x = Wm.enc (T j).s.data.toList.length ++ (T j).s.data.toList ∧ (T j).s.data.toList.length ≤ 65536 := by
                    have := bytes_text (U j) (by rw [hUi.out]; exact tcut_text _ hk4)
                    rw [hx, hUi.out] at this
                    have e : (tcut (T j)).s.size = (T j).s.data.toList.length := by simp [tcut]
                    rw [e] at this
                    split at this
                    · rename_i hle
                      exact ⟨Option.some.inj this, hle⟩
                    · cases this
                  have hcut := cut_text (T j).s.data.toList rr l e0 hxt.2 (by rw [← hxt.1]; exact hC)
                  clear hk4 hx hC hxt
                  have ht9 := ht.kept kr9 hpos hpos
                  go_wp2_with fail
                  refine (text_all _ _ l e0 65536 _ hR ht9 (by omega)).mono ?_
                  rintro e w6 ⟨rfl, h6, k6⟩
                  generalize gText l e0 65536 = r at *
                  have hs6 := k6.size
                  have kr6 := kr9.out k6 kr9.size (by omega)
                  have h6c := h6.cells
                  have d2 := (k6.cell (p := ⟨gb, o + j * 36 + 2, none⟩) hgb (by show gb ≠ _; omega)).trans Hc2.out
                  by_cases he : r.err = 0
                  · have hval := hcut.1 he
                    rw [he] at h6c h6 hcut
                    rw [hval, str_of]
                    have Hcut := Lib.hid hcut.2
                    clear hcut he c0
                    go_wp2_with (go_at_call 27; refine (err_same (wo + 1) 0 _ (by exact h6c)).mono ?_; rintro e w' ⟨rfl, rfl⟩)
                    go_roundw
                    case rel => exact ⟨j + 1, r.left, 0, by omega, by go_num, h6, by rw [Hrr.out]; exact Hcut.out, kr6, hwo⟩
                    case measure => simp [intOf]; omega
                  · have he2 : r.err = 2 := by
                      rcases hcut.2 with ⟨h, _⟩ | ⟨h, _⟩
                      · exact absurd h he
                      · exact h
                    rw [he2] at h6c h6 hcut
                    have Hcut := Lib.hid hcut.2
                    clear hcut he he2 c0
                    go_wp2_with (go_at_call 27; refine (err_same (wo + 1) 2 _ (by exact h6c)).mono ?_; rintro e w' ⟨rfl, rfl⟩)
                    go_roundw
                    case rel => exact ⟨j + 1, r.left, 2, by omega, by go_num, h6, by rw [Hrr.out]; exact Hcut.out, kr6, hwo⟩
                    case measure => simp [intOf]; omega
              · obtain rfl : j = k := by omega
                have hC : Cut [] l e0 := by
                  rw [Nat.sub_self] at hC
                  exact hC
                obtain ⟨rfl, rfl⟩ := cut_end l e0 hC
                have hRc := hR.cells
                go_wp2_with first
                  | (go_at_call 27; refine (err_same (wo + 1) 2 _ (by exact hRc)).mono ?_; rintro e w' ⟨rfl, rfl⟩)
                  | (go_at_call 28; refine (end_all _ _ _ _ _ hR).mono ?_; rintro e w' ⟨rfl, rfl⟩)
                go_ret
                exact ⟨rfl, kr9⟩

end Go.Proofs.YtbpcmfnfjbnloaaDoor
