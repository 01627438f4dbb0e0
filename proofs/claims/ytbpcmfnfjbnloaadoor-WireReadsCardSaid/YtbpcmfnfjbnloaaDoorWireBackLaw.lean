/-
  The walk of the statement WireBack: what was put is taken as it was, to the end.
-/
import Derived.Test.YtbpcmfnfjbnloaaDoorWireWritesLaw
import Derived.Test.YtbpcmfnfjbnloaaDoorWireNilLaw
import Derived.Test.YtbpcmfnfjbnloaaDoorWireTextLaw
import Derived.Deep.RegionWith
import Derived.Deep.WholeRow
import Derived.BigRegion
import Derived.Deep.RegionHeld3
namespace Go.Proofs.YtbpcmfnfjbnloaaDoor
open Go.RowKit

/-- The bytes of the first k things; of m things from the k-th on; could all the first k be put? -/
def cat (T : Nat → Th) : Nat → List UInt8
  | 0 => []
  | k + 1 => cat T k ++ (T k).bytes.getD []
def rest (T : Nat → Th) (k : Nat) : Nat → List UInt8
  | 0 => []
  | m + 1 => (T k).bytes.getD [] ++ rest T (k + 1) m
def allOk (T : Nat → Th) : Nat → Bool
  | 0 => true
  | k + 1 => allOk T k && (T k).bytes.isSome
theorem cat_rest (T : Nat → Th) (m : Nat) : ∀ k, cat T k ++ rest T k m = cat T (k + m) := by
  induction m with
  | zero => intro k; simp [rest]
  | succ m ih =>
    intro k
    rw [rest, ← List.append_assoc]
    have := ih (k + 1)
    rw [cat] at this
    rw [this]
    congr 1
    omega
theorem cat_all (T : Nat → Th) (n : Nat) : cat T n = rest T 0 n := by
  have := cat_rest T n 0
  rw [Nat.zero_add] at this
  rw [← this]
  rfl
theorem allOk_at (T : Nat → Th) (n : Nat) (h : allOk T n = true) : ∀ i, i < n → ∃ x, (T i).bytes = some x := by
  induction n with
  | zero => intro i hi; omega
  | succ n ih =>
    intro i hi
    rw [allOk, Bool.and_eq_true] at h
    by_cases hn : i = n
    · subst hn
      exact Option.isSome_iff_exists.1 h.2
    · exact ih h.1 i (by omega)

theorem bytes_num (t : Th) (hk : t.kind % 4 = 0) : t.bytes = if 0 ≤ t.n ∧ t.n ≤ 4611686018427387903 then some (Wm.enc t.n.toNat) else none := by rw [Th.bytes, if_pos hk]
theorem bytes_text (t : Th) (hk : t.kind % 4 = 1) : t.bytes = if t.s.size ≤ 65536 then some (Wm.enc t.s.size ++ t.s.data.toList) else none := by
  have h0 : ¬ t.kind % 4 = 0 := by omega
  rw [Th.bytes, if_neg h0, if_pos hk]
theorem bytes_hash (t : Th) (hk : t.kind % 4 = 2) : t.bytes = some t.h := by
  have h0 : ¬ t.kind % 4 = 0 := by omega
  have h1 : ¬ t.kind % 4 = 1 := by omega
  rw [Th.bytes, if_neg h0, if_neg h1, if_pos hk]
theorem bytes_flag (t : Th) (hk : t.kind % 4 = 3) : t.bytes = some [if t.b then 1 else 0] := by
  have h0 : ¬ t.kind % 4 = 0 := by omega
  have h1 : ¬ t.kind % 4 = 1 := by omega
  have h2 : ¬ t.kind % 4 = 2 := by omega
  rw [Th.bytes, if_neg h0, if_neg h1, if_neg h2]
theorem pTh_num (st : Option (List UInt8)) (t : Th) (hk : t.kind % 4 = 0) : pNum st t.n = pTh st t := by
  rw [pTh, bytes_num t hk, pNum]
  split <;> rfl
theorem pTh_text (st : Option (List UInt8)) (t : Th) (hk : t.kind % 4 = 1) : pText st t.s.data.toList = pTh st t := by
  have e : t.s.data.toList.length = t.s.size := by simp
  rw [pTh, bytes_text t hk, pText, e]
  split <;> rfl
theorem pTh_hash (st : Option (List UInt8)) (t : Th) (hk : t.kind % 4 = 2) : pRaw st t.h = pTh st t := by
  rw [pTh, bytes_hash t hk]
  rfl
theorem pTh_flag (st : Option (List UInt8)) (t : Th) (hk : t.kind % 4 = 3) : pRaw st [if t.b then 1 else 0] = pTh st t := by
  rw [pTh, bytes_flag t hk]
  rfl

theorem Th.cells_all (t : Th) : t.cells.toArray.all (·.oneCell') = true := by
  rw [Array.all_eq_true_iff_forall_mem]
  intro v hv
  simp only [Th.cells, List.mem_toArray, List.mem_cons, List.mem_append, List.not_mem_nil, or_false] at hv
  rcases hv with rfl | rfl | rfl | hv | rfl
  · rfl
  · rfl
  · rfl
  · exact bcells_one _ _ hv
  · rfl

theorem read_num (t : Th) (hk : t.kind % 4 = 0) (x : List UInt8) (hb : t.bytes = some x) (r : List UInt8) : Wm.rNum (x ++ r) 4611686018427387903 = ⟨t.n, r, 0⟩ := by
  rw [bytes_num t hk] at hb
  split at hb
  · rename_i hn
    cases hb
    have e : ((t.n.toNat : Nat) : Int) = t.n := by omega
    have := Wm.rNum_enc t.n.toNat (by omega) r 4611686018427387903 (by omega)
    rw [this, e]
  · cases hb
theorem read_text (t : Th) (hk : t.kind % 4 = 1) (x : List UInt8) (hb : t.bytes = some x) (r : List UInt8) : Wm.rText (x ++ r) 65536 = ⟨t.s.data.toList, r, 0⟩ := by
  have e : t.s.data.toList.length = t.s.size := by simp
  rw [bytes_text t hk] at hb
  split at hb
  · cases hb
    have := rText_enc t.s.data.toList (by omega) r 65536 (by omega)
    rwa [e] at this
  · cases hb
theorem read_flag (t : Th) (hk : t.kind % 4 = 3) (x : List UInt8) (hb : t.bytes = some x) (r : List UInt8) : Wm.rFlag (x ++ r) = ⟨t.b, r, 0⟩ := by
  rw [bytes_flag t hk] at hb
  cases hb
  cases t.b <;> rfl
theorem rest_at (T : Nat → Th) (j k : Nat) (hj : j < k) : rest T j (k - j) = (T j).bytes.getD [] ++ rest T (j + 1) (k - (j + 1)) := by
  obtain ⟨m, hm⟩ : ∃ m, k - j = m + 1 := ⟨k - j - 1, by omega⟩
  rw [hm, rest]
  congr 2
  omega

/-- A value laid into a block that has just been made. -/
theorem store_new (w : World) (t : TypeId) (z cs : Array Value) (hz : z.size = cs.size) (h1 : cs.all (·.oneCell') = true) : (storeCells ⟨w.heap.size, 0, none⟩ cs.toList).run Tryd.prog (w.alloc (.cells z t)) = .ok () (w.alloc (.cells cs t)) := by
  have := run_storeCells_from (P := Tryd.prog) w.heap.size t cs.toList 0 z (w.alloc (.cells z t)) (heap_new w _) (by simp; omega) (fun v hv => (Array.all_eq_true_iff_forall_mem.1 h1) v (by simpa using hv))
  rw [this]
  congr 1
  rw [← World.setRow_alloc_new w z cs t]
  simp

/-- The cells of a thing in the middle of a block. -/
theorem mid_cell {w : World} {g o j : Nat} {cs : List Value} {v : Value} (h : w.rangeAt g o cs) (hv : cs.toArray[j]? = some v) : w.cell? ⟨g, o + j, none⟩ = some v := h j v (by simpa using hv)
theorem mid_hash {w : World} {g o : Nat} (t : Th) (h : w.rangeAt g o t.cells) : w.rangeAt g (o + 3) (bcells t.h) := fun j v hv => by
  have := t.cellH j v hv
  rw [Nat.add_assoc]
  exact mid_cell h this

set_option maxHeartbeats 3200000 in
set_option maxRecDepth 100000 in
theorem back_walk (v : Value) (len : Nat) (T : Nat → Th) (w : World) (ht : Tab w) (h : Things w v len T) :
    Calls Tryd.prog 5 #[v] w fun e w' => e = .returned (.bool true) ∧ Kept w.heap.size w.heap.size w w' := by
  have hpos := ht.lt
  obtain ⟨ao, cap, rfl, _⟩ := h.ex
  go_enter Tryd.func5, Tryd.ntmps5
  go_wp2_with fail
  refine (awake_calls _ ht).mono ?_
  rintro e w1 ⟨rfl, k1⟩
  go_wp2_with fail
  refine (few_any _ len T _ (h.same k1)).mono ?_
  rintro e w2 ⟨bb, rfl, hlen, rfl⟩
  have hs1 := k1.size
  cases bb with
  | false =>
    go_wp2_with fail
    refine (awake_calls _ (ht.kept k1 hpos hpos)).mono ?_
    rintro e w2 ⟨rfl, k2⟩
    go_wp2
    go_ret
    exact ⟨rfl, k1.out k2 hs1 hs1⟩
  | true =>
    have hlen3 := hlen rfl
    clear hlen
    go_wp2_with fail
    refine (new_calls _).mono ?_
    rintro e w3 ⟨rfl, h3, k3, s3⟩
    have kk := k1.out k3 hs1 hs1
    have hs3 := kk.size
    go_wp2_with fail
    go_loopw [4] (fun i wr => ∃ (k : Nat) (st : Option (List UInt8)), k ≤ len ∧ i = .int .i64 k ∧ Hid (Short st (65544 * k)) ∧ Wrote (allOk T k) (cat T k) st ∧ WrV wr (w1.heap.size + 1) w1.heap.size (.pointer (some ⟨w1.heap.size, 0, none⟩)) st ∧ Kept w.heap.size w.heap.size w wr ∧ w1.heap.size + 1 ≤ wr.heap.size) (fun i _ => len - (intOf i).toNat)
    case atStart => exact ⟨0, some [], by omega, rfl, Lib.hid (fun l hl => by cases hl; simp), ⟨fun _ => rfl, fun e => by cases e⟩, .inr ⟨rfl, h3⟩, kk, by omega⟩
    case round =>
      obtain ⟨k, st, hk, rfl, HS, hwr, hw, kr, hsr⟩ := hrel
      by_cases hlt : k < len
      · obtain ⟨gb, o, cap2, hv, hok, hlm, hr⟩ := things_at (h.same kr) (by omega)
        cases hv
        have ok := hok k hlt
        have hr := hr k hlt
        have Hst := Lib.hid (hwr.step (T k))
        have HS2 : Hid (Short (pTh st (T k)) (65544 * (k + 1))) := Lib.hid (by have := short_th st (T k) ok _ HS.out; rwa [show 65544 * (k + 1) = 65544 * k + 65544 by omega])
        have HS3 : Hid (Short st 700000000) := Lib.hid (fun l hl => by have := HS.out l hl; omega)
        have c0 : wr.cell? ⟨gb, o + k * 36, none⟩ = some (.int .u8 (T k).kind) := by simpa using mid_cell hr (T k).cell0
        have c1 := mid_cell hr (T k).cell1
        have c2 := mid_cell hr (T k).cell2
        have cB := mid_cell hr ((T k).cellB ok)
        have Hh := Lib.hid (mid_hash (T k) hr)
        have hs32 := ok.h
        have hss := ok.s
        have hkd := ok.kind
        have Hn := Lib.hid (pTh_num st (T k))
        have Hx := Lib.hid (pTh_text st (T k))
        have Hhs := Lib.hid (pTh_hash st (T k))
        have Hf := Lib.hid (pTh_flag st (T k))
        have hbl : (bcells (T k).h).length = 32 := by rw [bcells_length, hs32]
        clear hr hok hwr
        generalize ht' : T k = t at *
        have Ht := Lib.hid ht'
        clear ht' HS
        have htab := ht.kept kr hpos hpos
        rcases (show t.kind % 4 = 0 ∨ t.kind % 4 = 1 ∨ t.kind % 4 = 2 ∨ t.kind % 4 = 3 by omega) with hk4 | hk4 | hk4 | hk4
        · have hmod : (t.kind : Int) % 4 = 0 := by omega
          have hst2 := Lib.hid (Hn.out hk4)
          clear hk4
          go_wp2_with fail
          refine (wnum_v _ _ _ st t.n _ hw htab (fun l hl => by have := HS3.out l hl; omega)).mono ?_
          rintro e w4 ⟨rfl, h4, k4⟩
          rw [hst2.out] at h4
          have hs4 := k4.size
          go_wp2
          go_roundw
          case rel => exact ⟨k + 1, pTh st t, by omega, by go_num, HS2, by rw [allOk, cat, Ht.out]; exact Hst.out, h4, kr.out k4 (by omega) hs1, by omega⟩
          case measure => simp [intOf]; omega
        · have hmod : (t.kind : Int) % 4 = 1 := by omega
          have hst2 := Lib.hid (Hx.out hk4)
          clear hk4
          go_wp2_with fail
          refine (wtext_v _ _ _ st t.s _ hw htab hss (fun l hl => by have := HS3.out l hl; omega)).mono ?_
          rintro e w4 ⟨rfl, h4, k4⟩
          rw [hst2.out] at h4
          have hs4 := k4.size
          go_wp2
          go_roundw
          case rel => exact ⟨k + 1, pTh st t, by omega, by go_num, HS2, by rw [allOk, cat, Ht.out]; exact Hst.out, h4, kr.out k4 (by omega) hs1, by omega⟩
          case measure => simp [intOf]; omega
        · have hmod : (t.kind : Int) % 4 = 2 := by omega
          have hst2 := Lib.hid (Hhs.out hk4)
          clear hk4
          go_wp2_with (with_reducible refine wpList_load_mid rfl 30 _ rfl gb (o + k * 36 + 3) rfl (bcells t.h) _ Hh.out Tryd.underlying30 rfl (by rw [wireInfo30, hbl]) ?_)
          refine (whash_v _ _ _ st t.h hs32 _ hw (fun l hl => by have := HS3.out l hl; omega)).mono ?_
          rintro e w4 ⟨rfl, h4, k4⟩
          rw [hst2.out] at h4
          have hs4 := k4.size
          go_wp2
          go_roundw
          case rel => exact ⟨k + 1, pTh st t, by omega, by go_num, HS2, by rw [allOk, cat, Ht.out]; exact Hst.out, h4, kr.out k4 (by omega) hs1, by omega⟩
          case measure => simp [intOf]; omega
        · have hmod : (t.kind : Int) % 4 = 3 := by omega
          have hst2 := Lib.hid (Hf.out hk4)
          clear hk4
          go_wp2_with fail
          refine (wflag_v _ _ _ st t.b _ hw (fun l hl => by have := HS3.out l hl; omega)).mono ?_
          rintro e w4 ⟨rfl, h4, k4⟩
          rw [hst2.out] at h4
          have hs4 := k4.size
          go_wp2
          go_roundw
          case rel => exact ⟨k + 1, pTh st t, by omega, by go_num, HS2, by rw [allOk, cat, Ht.out]; exact Hst.out, h4, kr.out k4 (by omega) hs1, by omega⟩
          case measure => simp [intOf]; omega
      · obtain rfl : k = len := by omega
        have hw2 : Wr wr (w1.heap.size + 1) w1.heap.size st := by
          rcases hw with ⟨h, _⟩ | ⟨_, h⟩
          · cases h
          · exact h
        clear hw HS
        cases hg : allOk T k with
        | false =>
          rw [hwr.2 hg] at hw2
          clear hwr hg
          go_wp2_with fail
          refine (wend_bad _ _ _ hw2).mono ?_
          rintro e w4 ⟨rfl, rfl⟩
          go_wp2
          go_ret
          exact ⟨rfl, kr⟩
        | true =>
          rw [hwr.1 hg] at hw2
          have Hall := Lib.hid (allOk_at T k hg)
          have Hcat := Lib.hid (cat_all T k)
          clear hwr hg
          go_wp2_with fail
          refine (wend_ok _ _ _ _ hw2).mono ?_
          rintro e w4 ⟨rfl, rfl⟩
          clear hw2
          go_wp2_with fail
          refine (from_calls _ _).mono ?_
          rintro e w5 ⟨rfl, h5, k5, s5⟩
          have h5 : Rd w5 (wr.heap.size + 2) (wr.heap.size + 1) (rest T 0 k) 0 := by rw [← Hcat.out]; exact h5
          have kr5 := kr.out k5 (by omega) (by omega)
          have hs5 := kr5.size
          clear hsr s5 k5 Hcat
          obtain ⟨wo, hwo⟩ : ∃ wo : Nat, wo = wr.heap.size := ⟨_, rfl⟩
          have hwo9 : w.heap.size ≤ wo := by have := kr.size; omega
          rw [← hwo] at h5 ⊢
          clear hwo
          go_wp2_with fail
          go_loopw [8] (fun i w9 => ∃ j : Nat, j ≤ k ∧ i = .int .i64 j ∧ Rd w9 (wo + 2) (wo + 1) (rest T j (k - j)) 0 ∧ Kept w.heap.size w.heap.size w w9 ∧ w.heap.size ≤ wo) (fun i _ => k - (intOf i).toNat)
          case atStart => exact ⟨0, by omega, rfl, h5, kr5, by omega⟩
          case round =>
            obtain ⟨j, hj, rfl, hR, kr9, hwo⟩ := hrel
            by_cases hlt : j < k
            · obtain ⟨gb, o, cap2, hv, hok, hlm, hr⟩ := things_at (h.same kr9) (by omega)
              cases hv
              have ok := hok j hlt
              have hr := Lib.hid (hr j hlt)
              have hcl := Lib.hid ((T j).cells_length ok)
              have H36 : Hid ((T j).cells.toArray.size = 36) := Lib.hid (by simpa using (T j).cells_length ok)
              have h1 := Lib.hid (T j).cells_all
              have c0 := (T j).cell0
              have c1 := (T j).cell1
              have c2 := (T j).cell2
              have cB := (T j).cellB ok
              have cH := (T j).cellH
              clear hok
              generalize hcs : (T j).cells.toArray = cs at *
              have hkd := ok.kind
              obtain ⟨x, hx⟩ := Hall.out j hlt
              have hrest := rest_at T j k hlt
              rw [hx] at hrest
              have hR : Rd wr (wo + 2) (wo + 1) (x ++ rest T (j + 1) (k - (j + 1))) 0 := by rw [show x ++ rest T (j + 1) (k - (j + 1)) = rest T j (k - j) from hrest.symm]; exact hR
              have Hx := Lib.hid hx
              clear hrest hx
              generalize hrr : rest T (j + 1) (k - (j + 1)) = rr at hR
              have Hrr := Lib.hid hrr
              clear hrr
              have hR0 := hR
              have hR1 := hR.alloc (.cells cs 32)
              have k10 := kr9.alloc kr9.size (.cells cs 32)
              have d0 : (wr.alloc (.cells cs 32)).cell? ⟨wr.heap.size, 0, none⟩ = _ := (World.cell?_alloc_new wr cs _ 0).trans c0
              have d1 : (wr.alloc (.cells cs 32)).cell? ⟨wr.heap.size, 1, none⟩ = _ := (World.cell?_alloc_new wr cs _ 1).trans c1
              have d2 : (wr.alloc (.cells cs 32)).cell? ⟨wr.heap.size, 2, none⟩ = _ := (World.cell?_alloc_new wr cs _ 2).trans c2
              have dB : (wr.alloc (.cells cs 32)).cell? ⟨wr.heap.size, 35, none⟩ = _ := (World.cell?_alloc_new wr cs _ 35).trans cB
              have HcH := Lib.hid cH
              have Hbx := Lib.hid (heap_new wr (.cells cs 32))
              clear cH
              have hsz6 : (wr.alloc (.cells cs 32)).heap.size = wr.heap.size + 1 := by simp
              go_wp2_with (with_reducible refine wpList_load_mid rfl 32 _ rfl gb (o + j * 36) rfl (T j).cells _ hr.out Tryd.underlying32 rfl (by rw [wireInfo32, hcl.out]) ?_)
              rw [store_new wr 32 _ cs (by rw [H36.out]; rfl) h1.out]
              clear hcs
              generalize hw6 : wr.alloc (.cells cs 32) = w6 at *
              clear hw6
              clear c0 c1 c2 cB
              have ht6 := ht.kept k10 hpos hpos
              have hX1 : wr.heap.size < w6.heap.size := by omega
              have hX2 : wr.heap.size ≠ wo + 1 := by have := hR0.le; omega
              clear hR hR0
              rcases (show (T j).kind % 4 = 0 ∨ (T j).kind % 4 = 1 ∨ (T j).kind % 4 = 2 ∨ (T j).kind % 4 = 3 by omega) with hk4 | hk4 | hk4 | hk4
              · have hmod : ((T j).kind : Int) % 4 = 0 := by omega
                have hv := read_num (T j) hk4 x Hx.out rr
                have d := d1
                have hcall : ∀ w, Rd w (wo + 2) (wo + 1) (x ++ rr) 0 → Tab w → Calls Tryd.prog 17 #[.pointer (some ⟨wo + 1, 0, none⟩), .int .i64 4611686018427387903] w fun e w' => e = .returned (.int .i64 (T j).n) ∧ Rd w' (wo + 2) (wo + 1) rr 0 ∧ Kept w.heap.size (wo + 1) w w' := fun w h ht => by
                  have := num_run _ _ _ 4611686018427387903 _ h ht (by omega)
                  rw [hv] at this
                  exact this
                have Hcall := Lib.hid hcall
                clear hv hcall
                clear hk4
                go_wp2_with fail
                go_region_with (go_at_call 17; refine (Hcall.out _ (by first | exact hR1 | exact hR1.drew) (by first | exact ht6 | exact ht6.drew)).mono ?_; rintro e w7 ⟨rfl, h7, k7⟩; have d' := (k7.cell (p := ⟨wr.heap.size, 1, none⟩) hX1 hX2).trans d)
                all_goals
                  go_wp2_with fail
                  refine (err_cell (wo + 1) 0 _ h7.cells).mono ?_
                  rintro e w8 ⟨rfl, rfl⟩
                  have k7 : Kept w6.heap.size (wo + 1) w6 w7 := k7.ofDrew
                  have hs7 := k7.size
                  go_wp2
                  go_roundw
                  case rel => exact ⟨j + 1, by omega, by go_num, by rw [Hrr.out]; exact h7, k10.out k7 k10.size (by omega), hwo⟩
                  case measure => simp [intOf]; omega
              · have hmod : ((T j).kind : Int) % 4 = 1 := by omega
                have hv := read_text (T j) hk4 x Hx.out rr
                have d := d2
                have hcall : ∀ w, Rd w (wo + 2) (wo + 1) (x ++ rr) 0 → Tab w → Calls Tryd.prog 19 #[.pointer (some ⟨wo + 1, 0, none⟩), .int .i64 65536] w fun e w' => e = .returned (.string (T j).s) ∧ Rd w' (wo + 2) (wo + 1) rr 0 ∧ Kept w.heap.size (wo + 1) w w' := fun w h ht => by
                  have := rtext_run _ _ _ 65536 _ h ht (by omega)
                  rw [hv] at this
                  have e : str (T j).s.data.toList = (T j).s := str_of _
                  refine this.mono fun e1 w1 ⟨h1, h2, h3⟩ => ⟨?_, h2, h3⟩
                  rw [h1, ← e]
                have Hcall := Lib.hid hcall
                clear hv hcall
                clear hk4
                go_wp2_with fail
                go_region_with (go_at_call 19; refine (Hcall.out _ (by first | exact hR1 | exact hR1.drew) (by first | exact ht6 | exact ht6.drew)).mono ?_; rintro e w7 ⟨rfl, h7, k7⟩; have d' := (k7.cell (p := ⟨wr.heap.size, 2, none⟩) hX1 hX2).trans d)
                all_goals
                  go_wp2_with fail
                  refine (err_cell (wo + 1) 0 _ h7.cells).mono ?_
                  rintro e w8 ⟨rfl, rfl⟩
                  have k7 : Kept w6.heap.size (wo + 1) w6 w7 := k7.ofDrew
                  have hs7 := k7.size
                  go_wp2
                  go_roundw
                  case rel => exact ⟨j + 1, by omega, by go_num, by rw [Hrr.out]; exact h7, k10.out k7 k10.size (by omega), hwo⟩
                  case measure => simp [intOf]; omega
              · have hmod : ((T j).kind : Int) % 4 = 2 := by omega
                have hxh : x = (T j).h := by have := bytes_hash (T j) hk4; rw [Hx.out] at this; exact Option.some.inj this
                have h32 := ok.h
                obtain ⟨A, hA⟩ : ∃ A, A = bcells (T j).h := ⟨_, rfl⟩
                have hcall : ∀ w, Rd w (wo + 2) (wo + 1) (x ++ rr) 0 → Calls Tryd.prog 21 #[.pointer (some ⟨wo + 1, 0, none⟩)] w fun e w' => e = .returned (.agg A.toArray) ∧ Rd w' (wo + 2) (wo + 1) rr 0 ∧ Kept w.heap.size (wo + 1) w w' := fun w h => by
                  have := rhash_ok _ _ _ _ h (by rw [List.length_append, hxh, h32]; omega)
                  rw [List.take_left' (by rw [hxh, h32]), List.drop_left' (by rw [hxh, h32]), hxh, ← hA] at this
                  exact this
                have heq : ∀ w, (Op.equalIn 10000 30 (.agg A.toArray) (.agg A.toArray)).run Tryd.prog w = .ok true w := fun w => by
                  have := hash_equalIn w (T j).h (T j).h h32 h32
                  rw [beq_self_eq_true] at this
                  rw [hA]
                  exact this
                have hrange : ∀ w9 : World, w9.heap[wr.heap.size]? = some (.cells cs 32 (0, 0)) → w9.rangeAt wr.heap.size 3 A := fun w9 h9 i v hv => by
                  rw [hA] at hv
                  simp only [World.cell?, h9]
                  exact HcH.out i v hv
                have hu := Tryd.underlying30
                have hi : (Tryd.prog.info? 30).map (·.size) = some A.length := by rw [wireInfo30, hA, bcells_length, h32]
                have hm := wireGuard30
                have r6 := hrange w6 Hbx.out
                have Hrange := Lib.hid hrange
                have Hcall := Lib.hid hcall
                clear hk4 hA hxh hcall hrange d1 d2 dB
                go_wp2_with fail
                go_region_held3 (fun w' => w'.rangeAt wr.heap.size 3 A) (first | exact r6 | assumption) (first | (go_at_call 21; refine (Hcall.out _ (by first | exact hR1 | exact hR1.drew)).mono ?_; rintro e w7 ⟨rfl, h7, k7⟩; have r7 := Hrange.out w7 ((k7.block wr.heap.size hX1 hX2).trans Hbx.out)))
                go_wp2_with fail
                refine (err_cell (wo + 1) 0 _ h7.cells).mono ?_
                rintro e w8 ⟨rfl, rfl⟩
                have k7 : Kept w6.heap.size (wo + 1) w6 w7 := k7.ofDrew
                have hs7 := k7.size
                go_wp2
                go_roundw
                case rel => exact ⟨j + 1, by omega, by go_num, by rw [Hrr.out]; exact h7, k10.out k7 k10.size (by omega), hwo⟩
                case measure => simp [intOf]; omega
              · have hmod : ((T j).kind : Int) % 4 = 3 := by omega
                have hv := read_flag (T j) hk4 x Hx.out rr
                have d := dB
                have hcall : ∀ w, Rd w (wo + 2) (wo + 1) (x ++ rr) 0 → Calls Tryd.prog 23 #[.pointer (some ⟨wo + 1, 0, none⟩)] w fun e w' => e = .returned (.bool (T j).b) ∧ Rd w' (wo + 2) (wo + 1) rr 0 ∧ Kept w.heap.size (wo + 1) w w' := fun w h => by
                  have := rflag_run _ _ _ _ h
                  rw [hv] at this
                  exact this
                have Hcall := Lib.hid hcall
                clear hv hcall
                clear hk4
                go_wp2_with fail
                go_region_with (go_at_call 23; refine (Hcall.out _ (by first | exact hR1 | exact hR1.drew)).mono ?_; rintro e w7 ⟨rfl, h7, k7⟩; have d' := (k7.cell (p := ⟨wr.heap.size, 35, none⟩) hX1 hX2).trans d)
                all_goals
                  go_wp2_with fail
                  refine (err_cell (wo + 1) 0 _ h7.cells).mono ?_
                  rintro e w8 ⟨rfl, rfl⟩
                  have k7 : Kept w6.heap.size (wo + 1) w6 w7 := k7.ofDrew
                  have hs7 := k7.size
                  go_wp2
                  go_roundw
                  case rel => exact ⟨j + 1, by omega, by go_num, by rw [Hrr.out]; exact h7, k10.out k7 k10.size (by omega), hwo⟩
                  case measure => simp [intOf]; omega
            · obtain rfl : j = k := by omega
              have hR : Rd wr (wo + 2) (wo + 1) [] 0 := by
                have := hR
                rwa [Nat.sub_self, rest] at this
              go_wp2_with fail
              refine (rend_run _ _ _ _ hR).mono ?_
              rintro e w8 ⟨rfl, rfl⟩
              go_wp2
              go_ret
              exact ⟨rfl, kr9⟩

end Go.Proofs.YtbpcmfnfjbnloaaDoor
