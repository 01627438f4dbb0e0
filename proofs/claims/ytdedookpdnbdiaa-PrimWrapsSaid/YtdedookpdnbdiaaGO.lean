/-
  PrimCross; PrimRefSeal; PrimRefOpen; PrimRefWrap: several texts in one.
-/
import Derived.Test.YtdedookpdnbdiaaGN
import Derived.Test.YtdedookpdnbdiaaGK
import Derived.Test.YtdedookpdnbdiaaGA
import Derived.Test.YtdedookpdnbdiaaGI
import Derived.Test.YtdedookpdnbdiaaGM

namespace Go.Proofs.Ytdedookpdnbdiaa
open Go.RowKit

theorem both_comm (a b : List UInt8) : Pm.both a b = Pm.both b a := by
  unfold Pm.both
  rw [List.zipWith_comm]
  congr
  funext x y
  exact UInt8.xor_comm _ _

/-- The block g has the bytes l, and nothing of them is frozen. -/
def BufAt (w : World) (g cap : Nat) (l : List UInt8) : Prop := ∃ cur fz, w.heap[g]? = some (.cells cur 5 fz) ∧ (fz = (0, 0) ∨ cur.size ≤ fz.1) ∧ l.length ≤ cap ∧ cur.size = cap ∧ cur.toList.take l.length = bcells l
theorem BufAt.same {w w' : World} {g cap : Nat} {l : List UInt8} (h : BufAt w g cap l) (hb : w'.heap[g]? = w.heap[g]?) : BufAt w' g cap l := by
  obtain ⟨cur, fz, h1, h2⟩ := h
  exact ⟨cur, fz, hb.trans h1, h2⟩
theorem BufAt.there {w : World} {g cap : Nat} {l : List UInt8} (h : BufAt w g cap l) : g < w.heap.size := by
  obtain ⟨cur, fz, h1, h2⟩ := h
  exact lt_of_block h1
theorem BufAt.cell {w : World} {g cap : Nat} {l : List UInt8} (h : BufAt w g cap l) {j : Nat} {x : UInt8} (hx : l[j]? = some x) : w.cell? ⟨g, j, none⟩ = some (.int .u8 (x.toNat : Int)) := by
  obtain ⟨cur, fz, h1, h2, h3, h4, h5⟩ := h
  have hj := (List.getElem?_eq_some_iff.1 hx).1
  have h9 := bcells_get l j hj
  rw [← h5, List.getElem?_take, if_pos hj] at h9
  rw [cell_of_row w g j cur _ fz h1]
  rw [(List.getElem?_eq_some_iff.1 hx).2] at h9
  simpa using h9
theorem BufAt.free {w : World} {g cap : Nat} {l : List UInt8} (h : BufAt w g cap l) {j : Nat} (_hj : j < l.length) : w.frozen? ⟨g, j, none⟩ = false := by
  obtain ⟨cur, fz, h1, h2, h3, h4, h5⟩ := h
  obtain ⟨lo, hi⟩ := fz
  simp only [World.frozen?, h1, Bool.and_eq_false_iff, decide_eq_false_iff_not]
  rcases h2 with h2 | h2
  · cases h2; right; omega
  · left; simp only at h2; omega
theorem BufAt.set {w : World} {g cap : Nat} {l : List UInt8} (h : BufAt w g cap l) {j : Nat} (_hj : j < l.length) (x : UInt8) : BufAt (w.setCell ⟨g, j, none⟩ (.int .u8 (x.toNat : Int))) g cap (l.set j x) := by
  obtain ⟨cur, fz, h1, h2, h3, h4, h5⟩ := h
  refine ⟨cur.setIfInBounds j (.int .u8 (x.toNat : Int)), fz, ?_, ?_, ?_, ?_, ?_⟩
  · rw [setCell_eq_setRow w g j cur _ fz _ h1]
    exact setRow_heap w g cur _ _ _ h1
  · rcases h2 with h2 | h2
    · exact .inl h2
    · exact .inr (by simpa using h2)
  · rw [List.length_set]; exact h3
  · simpa using h4
  · rw [List.length_set, Array.toList_setIfInBounds, List.take_set, h5]
    simp [bcells, List.map_set]
theorem BufAt.made (w : World) (s : ByteArray) (hs : s.size ≤ maxLen) : BufAt (w.drew.alloc (.cells (bytesRow s (grownCap w s.size 0 5)) 5 ((bytesRow s (grownCap w s.size 0 5)).size, (bytesRow s (grownCap w s.size 0 5)).size + 1))) w.heap.size (grownCap w s.size 0 5) s.data.toList := by
  obtain ⟨g, cap, cur, fz, h1, h2, h3, h4, h5, h6, h7, h8⟩ := (Buf.made w s hs).ex
  have e1 : g = w.heap.size := by
    have := h1
    simp only [Value.slice.injEq, Option.some.injEq, Addr.mk.injEq] at this
    omega
  have e2 : cap = grownCap w s.size 0 5 := by
    have := h1
    simp only [Value.slice.injEq] at this
    omega
  subst e1
  rw [← e2] at h3 ⊢
  exact ⟨cur, fz, h3, h4, h5, h7, h8⟩
theorem BufAt.conv {w : World} {g cap : Nat} {l : List UInt8} (h : BufAt w g cap l) : (convert 69 9 (.slice (some ⟨g, 0, none⟩) l.length cap)).run Try.prog w = .ok (.string (str l)) w :=
  conv_at w g 0 cap l fun j hj => by
    rw [Nat.zero_add]
    exact h.cell (List.getElem?_eq_getElem hj)

set_option maxRecDepth 100000 in
set_option maxHeartbeats 3200000 in
theorem refcross_calls (k : List UInt8) (hk : Hid (k.length = 32)) (s : List UInt8) (hs : Hid (s.length ≤ 3000)) (w : World) : Calls Try.prog 79 #[.agg (bcells k).toArray, .string (str s)] w fun e w' => e = .returned (.string (str (Pm.cross k s))) ∧ Kept w.heap.size w.heap.size w w' := by
  have hku : (Try.prog.info? 33).map (·.size) = some (bcells k).toArray.size := by rw [macInfo24, List.size_toArray, bcells_length, hk.out]
  generalize hkc : (bcells k).toArray = kc at hku
  have Hkc := Lib.hid hkc
  have HKI := Lib.hid hku
  obtain ⟨st, hst⟩ : ∃ st, st = Mc.stream (Pm.under k) s.length := ⟨_, rfl⟩
  have hstl : st.length = s.length := by rw [hst, Mc.stream_length]
  have hcr : Pm.cross k s = Pm.both st s := by rw [Pm.cross, ← hst, both_comm]
  obtain ⟨sx, hsx⟩ : ∃ sx, sx = str s := ⟨_, rfl⟩
  have hsl : s.length = sx.size := by rw [hsx, str_size]
  have hsd : sx.data.toList = s := by rw [hsx]
  have hdv : ∀ w', Calls Try.prog 80 #[.agg kc, .string ⟨#[115, 116, 114, 101, 97, 109]⟩, .string ⟨#[]⟩] w' fun e w'' => e = .returned (.agg (bcells (Pm.under k)).toArray) ∧ Kept w'.heap.size w'.heap.size w' w'' := fun w' => by
    rw [← Hkc.out]
    exact refderive_calls k hk ⟨#[115, 116, 114, 101, 97, 109]⟩ ⟨#[]⟩ (Lib.hid (by decide)) (Lib.hid (by decide)) w'
  have hsr : ∀ w', Calls Try.prog 109 #[.agg (bcells (Pm.under k)).toArray, .int .i64 (sx.size : Int)] w' fun e w'' => e = .returned (.string (str st)) ∧ Kept w'.heap.size w'.heap.size w' w'' := fun w' => by
    rw [hst, hsl]
    exact refstream_calls (Pm.under k) (Lib.hid (Pm.under_length k)) sx.size (Lib.hid (by rw [← hsl]; exact hs.out)) w'
  have hn64 : sx.size ≤ 65536 := by have := hs.out; omega
  obtain ⟨sst, hsst⟩ : ∃ sst, sst = str st := ⟨_, rfl⟩
  have hstz : sst.size = sx.size := by rw [hsst, str_size, hstl, hsl]
  have hstj : ∀ j (h1 : j < sst.size) (h2 : j < st.length), sst[j]'h1 = st[j] := fun j h1 h2 => by subst hsst; rfl
  generalize (bcells (Pm.under k)).toArray = cu at hdv hsr
  rw [← hsst] at hsr
  rw [← hsx, hcr]
  have HDV := Lib.hid hdv
  have HSR := Lib.hid hsr
  have HSL := Lib.hid hsl
  have HSD := Lib.hid hsd
  have HSTL := Lib.hid hstl
  have HSTJ := Lib.hid hstj
  clear hkc hku hst hcr hsx hdv hsr hsl hsd hstl hstj hsst
  go_enter Try.func79, Try.ntmps79
  go_upto_region 1 with fail
  have hP : (w.alloc (.cells kc 33)).heap[w.heap.size]? = some (.cells kc 33 (0, 0)) := heap_new _ _
  have k1 : Kept w.heap.size w.heap.size w (w.alloc (.cells kc 33)) := (Kept.refl _ _ _).alloc (Nat.le_refl _) _
  generalize w.alloc (.cells kc 33) = w1 at hP k1 ⊢
  obtain ⟨wa, hwa⟩ : ∃ wa, wa = w.heap.size := ⟨_, rfl⟩
  rw [← hwa] at hP ⊢
  have HP := Lib.hid hP
  have HK1 := Lib.hid k1
  clear hwa hP k1
  refine wp_region_lit ?_
  refine wpList_load_row_g ?hwb1 33 _ rfl (wa) rfl 33 kc (0, 0) _ (HP.out) Try.underlying33 rfl HKI.out ?_
  case hwb1 => kernel_rfl
  simp only [Act.put, List.setIfInBounds_toArray, List.set_cons_zero, List.set_cons_succ]
  refine @BigFrame.wpList_want _ _ _ _ _ _ _ ?hwb2 ?_
  case hwb2 => kernel_rfl
  intro K hK
  go_simp
  go_at_call 80; refine (HDV.out _).mono ?_; rintro e w3 ⟨rfl, k3⟩
  refine hK _ _ ?_
  clear hK K
  refine @BigFrame.wpList_want _ _ _ _ _ _ _ ?hwb3 ?_
  case hwb3 => kernel_rfl
  intro K hK
  go_simp
  refine hK _ _ ?_
  clear hK K
  refine @BigFrame.wpList_want _ _ _ _ _ _ _ ?hwb4 ?_
  case hwb4 => kernel_rfl
  intro K hK
  go_simp
  refine hK _ _ ?_
  clear hK K
  refine @BigFrame.wpList_want _ _ _ _ _ _ _ ?hwb5 ?_
  case hwb5 => kernel_rfl
  intro K hK
  go_simp
  go_at_call 109; refine (HSR.out _).mono ?_; rintro e w4 ⟨rfl, k4⟩
  refine hK _ _ ?_
  clear hK K
  have k14 : Kept w1.heap.size w1.heap.size w1 w4 := k3.trans (k4.mono k3.size (fun i hi _ => by have := k3.size; omega))
  have K14 := Lib.hid k14
  clear k14 k3 k4
  go_wp2_with fail
  rw [run_bytes_of_string (P := Try.prog) w4 9 69 5 sx Try.underlying9 Try.underlying69 Try.underlying5]
  have hbuf := BufAt.made w4 sx (by unfold maxLen; omega)
  rw [HSD.out] at hbuf
  have k5 : Kept w1.heap.size w1.heap.size w1 (w4.drew.alloc (.cells (bytesRow sx (grownCap w4 sx.size 0 5)) 5 ((bytesRow sx (grownCap w4 sx.size 0 5)).size, (bytesRow sx (grownCap w4 sx.size 0 5)).size + 1))) := K14.out.drew.alloc K14.out.size _
  have hg : w1.heap.size ≤ w4.heap.size := K14.out.size
  generalize w4.drew.alloc (.cells (bytesRow sx (grownCap w4 sx.size 0 5)) 5 ((bytesRow sx (grownCap w4 sx.size 0 5)).size, (bytesRow sx (grownCap w4 sx.size 0 5)).size + 1)) = w5 at hbuf k5 ⊢
  generalize grownCap w4 sx.size 0 5 = cp at hbuf ⊢
  generalize w4.heap.size = g at hbuf hg ⊢
  have HG := Lib.hid hg
  have HB5 := Lib.hid hbuf
  have HK5 := Lib.hid k5
  clear hbuf k5 hg
  go_wp2_with fail
  go_loopw [7] (fun i w9 => ∃ j : Nat, j ≤ sx.size ∧ i = .int .i64 (j : Int) ∧ Hid (BufAt w9 g cp (mixed st s j)) ∧ Hid (Kept w1.heap.size w1.heap.size w1 w9)) (fun i _ => sx.size - (RowKit.intOf i).toNat)
  case atStart => exact ⟨0, by omega, rfl, Lib.hid (by rw [mixed_zero]; exact HB5.out), HK5⟩
  case round =>
    obtain ⟨j, hj, rfl, hR, hK⟩ := hrel
    by_cases hlt : j < sx.size
    · have hjs : j < st.length := by rw [HSTL.out, HSL.out]; exact hlt
      have hln : (j : Int) < (sx.size : Int) := by omega
      have hj0 : ¬ (j : Int) < 0 := by omega
      have hjz : j < sst.size := by omega
      have hjzi : (j : Int) < (sst.size : Int) := by omega
      have hat := mixed_at st s HSTL.out j hjs
      have hmo := mixed_more st s HSTL.out j hjs
      have hml := mixed_length st s HSTL.out j (by omega)
      have hsy := HSTJ.out j hjz hjs
      generalize s[j]'(by have := HSTL.out; omega) = X at hat hmo
      generalize st[j] = Y at hmo hsy
      have hx : bits .xor .u8 (X.toNat : Int) ((sst[j]'hjz).toNat : Int) = ((X ^^^ Y).toNat : Int) := by rw [hsy]; exact xor8 X Y
      have c0 := hR.out.cell hat
      have hset := hR.out.set (j := j) (by omega) (X ^^^ Y)
      rw [← hmo] at hset
      have f0 : wr.frozen? ⟨g, j, none⟩ = false := hR.out.free (by omega)
      have hk6 : Kept w1.heap.size w1.heap.size w1 (wr.drew.setCell ⟨g, j, none⟩ (.int .u8 ((X ^^^ Y).toNat : Int))) := hK.out.drew.setCell (.inr HG.out) _
      generalize (X ^^^ Y) = Z at hx hset hk6
      have HX := Lib.hid hx
      have HSET := Lib.hid hset
      have HK6 := Lib.hid hk6
      clear hat hmo hml hsy hset hk6 hx
      go_upto_region 6 with fail
      refine wp_region_still_tail 10 (by kernel_rfl) (by kernel_rfl) ?_
      simp only [List.take_succ_cons, List.take_zero, List.drop_succ_cons, List.drop_zero]
      generalize hw9 : ({ heap := wr.heap, tape := wr.tape, drawn := wr.drawn + 1, os := wr.os, output := wr.output } : World) = wd
      have c0d : wd.cell? ⟨g, j, none⟩ = some (.int .u8 (X.toNat : Int)) := by rw [← hw9]; exact c0
      have f0d : wd.frozen? ⟨g, j, none⟩ = false := by rw [← hw9]; exact f0
      have HSETd : Hid (BufAt (wd.setCell ⟨g, j, none⟩ (.int .u8 (Z.toNat : Int))) g cp (mixed st s (j + 1))) := Lib.hid (by rw [← hw9]; exact HSET.out)
      have HKd : Hid (Kept w1.heap.size w1.heap.size w1 (wd.setCell ⟨g, j, none⟩ (.int .u8 (Z.toNat : Int)))) := Lib.hid (by rw [← hw9]; exact HK6.out)
      clear hw9 c0 f0 hR HSET HK6
      iterate 10 still_step
      refine wpStill_nil ?_
      go_wp2_with fail
      rw [HX.out]
      exact ⟨⟨j + 1, by omega, by rw [Int.natCast_add]; rfl, HSETd, HKd⟩, by simp only [RowKit.intOf]; omega⟩
    · obtain rfl : j = sx.size := by omega
      have hd3 : decide ((sx.size : Int) < (sx.size : Int)) = false := decide_eq_false (by omega)
      have hRR := hR.out
      rw [show mixed st s sx.size = Pm.both st s by rw [← HSL.out, ← HSTL.out]; exact mixed_all st s HSTL.out] at hRR
      have hcv := hRR.conv
      rw [Pm.both_length _ _ HSTL.out, HSTL.out, HSL.out] at hcv
      clear hRR hR
      obtain ⟨res, hres⟩ : ∃ res, res = str (Pm.both st s) := ⟨_, rfl⟩
      rw [← hres] at hcv
      have HRES := Lib.hid hres
      clear hres
      have HKK := Lib.hid (HK1.out.trans (hK.out.mono HK1.out.size (fun i hi _ => by have := HK1.out.size; omega)))
      clear hK
      go_wp2
      go_ret
      exact ⟨congrArg (fun x => Ending.returned (.string x)) HRES.out, HKK.out⟩

end Go.Proofs.Ytdedookpdnbdiaa

namespace Go.Proofs.Ytdedookpdnbdiaa
open Go.RowKit Go.Lib

set_option maxRecDepth 100000 in
set_option maxHeartbeats 3200000 in
theorem refseal_calls (k : List UInt8) (hk : Hid (k.length = 32)) (about : ByteArray) (h1 : Hid (about.size ≤ 3000)) (s : List UInt8) (hs : Hid (s.length ≤ 3000)) (w : World) : Calls Try.prog 36 #[.agg (bcells k).toArray, .string about, .string (str s)] w fun e w' => e = .returned (.string (str (Pm.sealed k about.data.toList s))) ∧ Kept w.heap.size w.heap.size w w' := by
  have hku := keyInfoP hk.out
  generalize hkc : (bcells k).toArray = kc at hku
  have hcr : ∀ w', Calls Try.prog 79 #[.agg kc, .string (str s)] w' fun e w'' => e = .returned (.string (str (Pm.cross k s))) ∧ Kept w'.heap.size w'.heap.size w' w'' := fun w' => by
    rw [← hkc]
    exact refcross_calls k hk s hs w'
  have hd1 : ∀ w', Calls Try.prog 80 #[.agg kc, .string ⟨#[116, 97, 103]⟩, .string ⟨#[]⟩] w' fun e w'' => e = .returned (.agg (bcells (Pm.tagKey k)).toArray) ∧ Kept w'.heap.size w'.heap.size w' w'' := fun w' => by
    rw [← hkc]
    exact refderive_calls k hk ⟨#[116, 97, 103]⟩ ⟨#[]⟩ (Lib.hid (by decide)) (Lib.hid (by decide)) w'
  have hcl : (Pm.cross k s).length ≤ 3000 := by rw [Pm.cross_length]; exact hs.out
  have hd2 : ∀ w', Calls Try.prog 80 #[.agg (bcells (Pm.tagKey k)).toArray, .string about, .string (str (Pm.cross k s))] w' fun e w'' => e = .returned (.agg (bcells (Mc.derive (Pm.tagKey k) about.data.toList (Pm.cross k s))).toArray) ∧ Kept w'.heap.size w'.heap.size w' w'' := fun w' =>
    refderive_calls (Pm.tagKey k) (Lib.hid (Pm.tagKey_length k)) about (str (Pm.cross k s)) (Lib.hid (by have := h1.out; omega)) (Lib.hid (by rw [str_size]; omega)) w'
  have htx : ∀ w', Calls Try.prog 70 #[.agg (bcells (Mc.derive (Pm.tagKey k) about.data.toList (Pm.cross k s))).toArray] w' fun e w'' => e = .returned (.string (str (Mc.derive (Pm.tagKey k) about.data.toList (Pm.cross k s)))) ∧ Kept w'.heap.size w'.heap.size w' w'' := fun w' => text_calls _ (Lib.hid (Mc.derive_length _ _ _)) w'
  have hx : (str (Mc.derive (Pm.tagKey k) about.data.toList (Pm.cross k s))).extract 0 16 = str (Pm.tag k about.data.toList (Pm.cross k s)) := str_take _ 16
  have hcat : str (Pm.cross k s) ++ str (Pm.tag k about.data.toList (Pm.cross k s)) = str (Pm.sealed k about.data.toList s) := by rw [str_append, Pm.sealed]
  have hz1 : (str (Pm.cross k s)).size ≤ 3000 := by rw [str_size]; exact hcl
  have hz2 : (str (Mc.derive (Pm.tagKey k) about.data.toList (Pm.cross k s))).size = 32 := by rw [str_size, Mc.derive_length]
  have hz3 : (str (Pm.tag k about.data.toList (Pm.cross k s))).size ≤ 16 := by rw [str_size, Pm.tag_length]; exact Nat.le_refl _
  generalize str (Pm.sealed k about.data.toList s) = res at hcat ⊢
  generalize str (Pm.tag k about.data.toList (Pm.cross k s)) = stg at hx hcat hz3
  generalize (bcells (Mc.derive (Pm.tagKey k) about.data.toList (Pm.cross k s))).toArray = cdv at hd2 htx
  generalize str (Mc.derive (Pm.tagKey k) about.data.toList (Pm.cross k s)) = sdv at htx hx hz2
  generalize str (Pm.cross k s) = scr at hcr hd2 hcat hz1
  generalize (bcells (Pm.tagKey k)).toArray = ctk at hd1 hd2
  have hd : decide ((65536 : Int) < ((str s).size : Int)) = false := decide_eq_false (by rw [str_size]; have := hs.out; omega)
  generalize str s = sx at hcr hd ⊢
  have HKI := Lib.hid hku
  have HCR := Lib.hid hcr
  have HD1 := Lib.hid hd1
  have HD2 := Lib.hid hd2
  have HTX := Lib.hid htx
  have HCAT := Lib.hid hcat
  clear hkc hku hcr hd1 hd2 htx hcat hcl
  go_enter Try.func36, Try.ntmps36
  go_upto_region 3 with fail
  have hP : (w.alloc (.cells kc 33)).heap[w.heap.size]? = some (.cells kc 33 (0, 0)) := heap_new _ _
  have k1 : Kept w.heap.size w.heap.size w (w.alloc (.cells kc 33)) := (Kept.refl _ _ _).alloc (Nat.le_refl _) _
  generalize w.alloc (.cells kc 33) = w1 at hP k1 ⊢
  obtain ⟨wa, hwa⟩ : ∃ wa, wa = w.heap.size := ⟨_, rfl⟩
  rw [← hwa] at hP ⊢
  have HP := Lib.hid hP
  have HK1 := Lib.hid k1
  clear hwa hP k1
  refine wp_region_lit ?_
  refine wpList_load_row_g ?hwa0 33 _ rfl (wa) rfl 33 kc (0, 0) _ (HP.out) Try.underlying33 rfl HKI.out ?_
  case hwa0 => kernel_rfl
  simp only [Act.put, List.setIfInBounds_toArray, List.set_cons_zero, List.set_cons_succ]
  refine @BigFrame.wpList_want _ _ _ _ _ _ _ ?hwa1 ?_
  case hwa1 => kernel_rfl
  intro K hK
  go_simp
  refine hK _ _ ?_
  clear hK K
  refine @BigFrame.wpList_want _ _ _ _ _ _ _ ?hwa2 ?_
  case hwa2 => kernel_rfl
  intro K hK
  go_simp
  go_at_call 79; refine (HCR.out _).mono ?_; rintro e w2 ⟨rfl, kw2⟩
  refine hK _ _ ?_
  clear hK K
  have p2 := (kw2.block _ (lt_of_block HP.out) (Nat.ne_of_lt (lt_of_block HP.out))).trans HP.out
  have HP2 := Lib.hid p2
  clear p2
  go_upto_region 4 with fail
  refine wp_region_lit ?_
  refine wpList_load_row_g ?hwb0 33 _ rfl (wa) rfl 33 kc (0, 0) _ (HP2.out) Try.underlying33 rfl HKI.out ?_
  case hwb0 => kernel_rfl
  simp only [Act.put, List.setIfInBounds_toArray, List.set_cons_zero, List.set_cons_succ]
  refine @BigFrame.wpList_want _ _ _ _ _ _ _ ?hwb1 ?_
  case hwb1 => kernel_rfl
  intro K hK
  go_simp
  go_at_call 80; refine (HD1.out _).mono ?_; rintro e w3 ⟨rfl, kw3⟩
  refine hK _ _ ?_
  clear hK K
  refine @BigFrame.wpList_want _ _ _ _ _ _ _ ?hwb2 ?_
  case hwb2 => kernel_rfl
  intro K hK
  go_simp
  refine hK _ _ ?_
  clear hK K
  refine @BigFrame.wpList_want _ _ _ _ _ _ _ ?hwb3 ?_
  case hwb3 => kernel_rfl
  intro K hK
  go_simp
  refine hK _ _ ?_
  clear hK K
  refine @BigFrame.wpList_want _ _ _ _ _ _ _ ?hwb4 ?_
  case hwb4 => kernel_rfl
  intro K hK
  go_simp
  go_at_call 80; refine (HD2.out _).mono ?_; rintro e w4 ⟨rfl, kw4⟩
  refine hK _ _ ?_
  clear hK K
  refine @BigFrame.wpList_want _ _ _ _ _ _ _ ?hwb5 ?_
  case hwb5 => kernel_rfl
  intro K hK
  go_simp
  go_at_call 70; refine (HTX.out _).mono ?_; rintro e w5 ⟨rfl, kw5⟩
  refine hK _ _ ?_
  clear hK K
  have Kw3 : Kept w1.heap.size w1.heap.size w1 w3 := kw2.trans (kw3.mono kw2.size (fun i hi _ => Nat.ne_of_lt (Nat.lt_of_lt_of_le hi kw2.size)))
  have Kw4 : Kept w1.heap.size w1.heap.size w1 w4 := Kw3.trans (kw4.mono Kw3.size (fun i hi _ => Nat.ne_of_lt (Nat.lt_of_lt_of_le hi Kw3.size)))
  have Kw5 : Kept w1.heap.size w1.heap.size w1 w5 := Kw4.trans (kw5.mono Kw4.size (fun i hi _ => Nat.ne_of_lt (Nat.lt_of_lt_of_le hi Kw4.size)))
  have HKK := Lib.hid (HK1.out.trans (Kw5.mono HK1.out.size (fun i hi _ => by have := HK1.out.size; omega)))
  clear Kw3 Kw4 Kw5 kw2 kw3 kw4 kw5 HP2
  go_upto_region 5 with fail
  go_wp2_with fail
  rw [HCAT.out]
  go_wp2
  go_ret
  exact ⟨rfl, HKK.out⟩

end Go.Proofs.Ytdedookpdnbdiaa

namespace Go.Proofs.Ytdedookpdnbdiaa
open Go.RowKit Go.Lib

set_option maxRecDepth 100000 in
set_option maxHeartbeats 3200000 in
theorem refopen_short (k : List UInt8) (about : ByteArray) (s : List UInt8) (hs : s.length < 16) (w : World) : Calls Try.prog 38 #[.agg (bcells k).toArray, .string about, .string (str s)] w fun e w' => e = .returned (.tuple #[.string ⟨#[]⟩, .int .i64 2]) ∧ Kept w.heap.size w.heap.size w w' := by
  generalize (bcells k).toArray = kc
  have hd : decide (((str s).size : Int) < 16) = true := decide_eq_true (by rw [str_size]; omega)
  generalize str s = sx at hd ⊢
  go_enter Try.func38, Try.ntmps38
  go_wp2
  refine bodyPost_ret (results_tmp2 rfl _ _ _) rfl ?_
  exact ⟨rfl, (Kept.refl _ _ _).alloc (Nat.le_refl _) _⟩

set_option maxRecDepth 100000 in
set_option maxHeartbeats 3200000 in
theorem refopen_right (k : List UInt8) (hk : Hid (k.length = 32)) (about : ByteArray) (h1 : Hid (about.size ≤ 3000)) (s : List UInt8) (n : Nat) (hn : s.length = n + 16) (hs : Hid (s.length ≤ 3000)) (w : World) : Calls Try.prog 38 #[.agg (bcells k).toArray, .string about, .string (str s)] w fun e w' => e = .returned (.tuple #[.string (str (Pm.opened k about.data.toList s).1), .int .i64 (((Pm.opened k about.data.toList s).2 : Nat) : Int)]) ∧ Kept w.heap.size w.heap.size w w' := by
  have hs3 := hs.out
  have hop : Pm.opened k about.data.toList s = if Pm.sealed k about.data.toList (Pm.cross k (Pm.body s)) = s then (Pm.cross k (Pm.body s), 0) else ([], 6) := by
    rw [Pm.opened, if_neg (by omega), if_neg (by omega)]
    by_cases h : Pm.tag k about.data.toList (Pm.body s) = Pm.rest s
    · rw [if_pos h, if_pos ((Pm.sealed_body _ _ _).2 h)]
    · rw [if_neg h, if_neg (fun e => h ((Pm.sealed_body _ _ _).1 e))]
  rw [hop]
  have hbl : (Pm.body s).length = n := by rw [Pm.body, List.length_take]; omega
  have hx1 : (str s).extract 0 n = str (Pm.body s) := by rw [str_take, Pm.body, hn, Nat.add_sub_cancel]
  have hsz : (str s).size = n + 16 := by rw [str_size, hn]
  have hku := keyInfoP hk.out
  generalize hkc : (bcells k).toArray = kc at hku
  have hcr : ∀ w', Calls Try.prog 79 #[.agg kc, .string (str (Pm.body s))] w' fun e w'' => e = .returned (.string (str (Pm.cross k (Pm.body s)))) ∧ Kept w'.heap.size w'.heap.size w' w'' := fun w' => by
    rw [← hkc]
    exact refcross_calls k hk (Pm.body s) (Lib.hid (by rw [hbl]; omega)) w'
  have hse : ∀ w', Calls Try.prog 36 #[.agg kc, .string about, .string (str (Pm.cross k (Pm.body s)))] w' fun e w'' => e = .returned (.string (str (Pm.sealed k about.data.toList (Pm.cross k (Pm.body s))))) ∧ Kept w'.heap.size w'.heap.size w' w'' := fun w' => by
    rw [← hkc]
    exact refseal_calls k hk about h1 (Pm.cross k (Pm.body s)) (Lib.hid (by rw [Pm.cross_length, hbl]; omega)) w'
  have heq : (str (Pm.sealed k about.data.toList (Pm.cross k (Pm.body s))) = str s) ↔ (Pm.sealed k about.data.toList (Pm.cross k (Pm.body s)) = s) := ⟨fun h => by have := congrArg (fun x : ByteArray => x.data.toList) h; exact this, fun h => by rw [h]⟩
  generalize Pm.cross k (Pm.body s) = cr at hcr hse heq ⊢
  generalize Pm.sealed k about.data.toList cr = sl at hse heq ⊢
  generalize str (Pm.body s) = sb at hx1 hcr
  generalize str sl = ssl at hse heq
  have hsub : ((str s).size : Int) - 16 = (n : Int) := by rw [hsz, Int.natCast_add]; omega
  have hb1 : ¬ ((n : Int) < 0) := by omega
  have hwn : IntKind.i64.wrap (n : Int) = (n : Int) := by
    rw [IntKind.wrap_i64]
    omega
  have hb2 : (n : Int) ≤ ((str s).size : Int) := by rw [hsz, Int.natCast_add]; omega
  have hb4 : ((str s).size : Int) ≤ 100000 := by rw [hsz, Int.natCast_add]; omega
  have hb5 : decide (((str s).size : Int) < 16) = false := decide_eq_false (by omega)
  have hb6 : decide ((65552 : Int) < ((str s).size : Int)) = false := decide_eq_false (by omega)
  generalize str s = sx at hx1 hsub hb1 hb2 hb4 hb5 hb6 heq ⊢
  have hres : ∃ (rt : ByteArray) (re : Int), str (if sl = s then (cr, 0) else (([] : List UInt8), (6 : Nat))).1 = rt ∧ (((if sl = s then (cr, 0) else (([] : List UInt8), (6 : Nat))).2 : Nat) : Int) = re ∧ (sl = s → rt = str cr ∧ re = 0) ∧ (¬ sl = s → rt = ⟨#[]⟩ ∧ re = 6) := by
    refine ⟨_, _, rfl, rfl, fun h => ?_, fun h => ?_⟩
    · rw [if_pos h]
      exact ⟨rfl, rfl⟩
    · rw [if_neg h]
      exact ⟨rfl, rfl⟩
  obtain ⟨rt, re, e1, e2, hpos, hneg⟩ := hres
  rw [e1, e2]
  clear e1 e2
  have HPOS := Lib.hid hpos
  have HNEG := Lib.hid hneg
  generalize hst : str cr = st at hcr hse
  have HKI := Lib.hid hku
  have HCR := Lib.hid hcr
  have HSE := Lib.hid hse
  have HEQ := Lib.hid heq
  have HST := Lib.hid hst
  clear hkc hku hcr hse heq hst hop hbl hsz hn hs3 hpos hneg
  go_enter Try.func38, Try.ntmps38
  go_upto_region 5 with fail
  have hP : (w.alloc (.cells kc 33)).heap[w.heap.size]? = some (.cells kc 33 (0, 0)) := heap_new _ _
  have k1 : Kept w.heap.size w.heap.size w (w.alloc (.cells kc 33)) := (Kept.refl _ _ _).alloc (Nat.le_refl _) _
  generalize w.alloc (.cells kc 33) = w1 at hP k1 ⊢
  obtain ⟨wa, hwa⟩ : ∃ wa, wa = w.heap.size := ⟨_, rfl⟩
  rw [← hwa] at hP ⊢
  have HP := Lib.hid hP
  have HK1 := Lib.hid k1
  clear hwa hP k1
  have hld : ∀ w', Kept w1.heap.size w1.heap.size w1 w' → (loadVar 33 ⟨wa, 0, none⟩).run Try.prog w' = .ok (.agg kc) w' := fun w' kk => run_loadVar_row w' wa 33 33 kc (0, 0) _ ((kk.block _ (lt_of_block HP.out) (Nat.ne_of_lt (lt_of_block HP.out))).trans HP.out) Try.underlying33 rfl HKI.out
  have HLD := Lib.hid hld
  clear hld
  have KD : Kept w1.heap.size w1.heap.size w1 w1.drew := (Kept.refl _ _ _).drew
  refine wp_region_noPanic ?_
  refine wp_region_held_drew (S := fun w' => Kept w1.heap.size w1.heap.size w1 w') (by kernel_rfl) (KD) (fun hH => ?_)
  refine wpAnyH_take_at (i := 0) 15 (.agg kc) rfl rfl (by kernel_rfl) (by kernel_rfl) (by kernel_rfl) (fun _ _ _ h => h) (yieldsIf_load_known (by rfl) 33 _ rfl (wa) (0) rfl (.agg kc) (fun w' hw' => (HLD.out w' hw'))) hH ?_
  simp only [List.setIfInBounds_toArray, List.set_cons_zero, List.set_cons_succ]
  refine wpAnyH_take_at (i := 1) 16 (.string sx) rfl rfl (by kernel_rfl) (by kernel_rfl) (by kernel_rfl) (fun _ _ _ h => h) (.inl ⟨by rfl, fun w9 _ => by go_simp⟩) hH ?_
  simp only [List.setIfInBounds_toArray, List.set_cons_zero, List.set_cons_succ]
  refine wpAnyH_take_at (i := 2) 17 (.string sx) rfl rfl (by kernel_rfl) (by kernel_rfl) (by kernel_rfl) (fun _ _ _ h => h) (.inl ⟨by rfl, fun w9 _ => by go_simp⟩) hH ?_
  simp only [List.setIfInBounds_toArray, List.set_cons_zero, List.set_cons_succ]
  refine wpAnyH_take_at (i := 3) 18 (.int .i64 (sx.size : Int)) rfl rfl (by kernel_rfl) (by kernel_rfl) (by kernel_rfl) (fun _ _ _ h => h) (.inl ⟨by rfl, fun w9 _ => by go_simp⟩) hH ?_
  simp only [List.setIfInBounds_toArray, List.set_cons_zero, List.set_cons_succ]
  refine wpAnyH_take_at (i := 4) 19 (.int .i64 (n : Int)) rfl rfl (by kernel_rfl) (by kernel_rfl) (by kernel_rfl) (fun _ _ _ h => h) (.inl ⟨by rfl, fun w9 _ => by go_simp⟩) hH ?_
  simp only [List.setIfInBounds_toArray, List.set_cons_zero, List.set_cons_succ]
  refine wpAnyH_take_at (i := 5) 20 (.string sb) rfl rfl (by kernel_rfl) (by kernel_rfl) (by kernel_rfl) (fun _ _ _ h => h) (.inl ⟨by rfl, fun w9 _ => by go_simp⟩) hH ?_
  simp only [List.setIfInBounds_toArray, List.set_cons_zero, List.set_cons_succ]
  refine wpAnyH_ready (rs := [6]) (by kernel_rfl) (by simp) ?_
  refine AllReadyH.cons rfl (fun K hK => ?_) AllReadyH.nil
  rw [if_pos (by rfl)]
  go_simp
  go_wp2_with (go_at_call 79; refine (HCR.out _).mono ?_; rintro e w2 ⟨rfl, kw2⟩)
  have Kw2 : Kept w1.heap.size w1.heap.size w1 w2 := KD.trans (kw2.mono KD.size (fun i hi _ => Nat.ne_of_lt (Nat.lt_of_lt_of_le hi KD.size)))
  refine hK.out _ _ (Kw2) (fun hH => ?_)
  clear hK K
  refine wpAnyH_take_at (i := 7) 8 (.string st) rfl rfl (by kernel_rfl) (by kernel_rfl) (by kernel_rfl) (fun _ _ _ h => h) (.inl ⟨by rfl, fun w9 _ => by go_simp⟩) hH ?_
  simp only [List.setIfInBounds_toArray, List.set_cons_zero, List.set_cons_succ]
  refine wpAnyH_done (by kernel_rfl) ?_ _
  refine NoPanic.normal ?_
  have p2 := (Kw2.block _ (lt_of_block HP.out) (Nat.ne_of_lt (lt_of_block HP.out))).trans HP.out
  have HP2 := Lib.hid p2
  clear p2
  go_upto_region 6 with fail
  refine wp_region_lit ?_
  refine wpList_load_row_g ?hwb0 33 _ rfl (wa) rfl 33 kc (0, 0) _ (HP2.out) Try.underlying33 rfl HKI.out ?_
  case hwb0 => kernel_rfl
  simp only [Act.put, List.setIfInBounds_toArray, List.set_cons_zero, List.set_cons_succ]
  refine @BigFrame.wpList_want _ _ _ _ _ _ _ ?hwb1 ?_
  case hwb1 => kernel_rfl
  intro K hK
  go_simp
  refine hK _ _ ?_
  clear hK K
  refine @BigFrame.wpList_want _ _ _ _ _ _ _ ?hwb2 ?_
  case hwb2 => kernel_rfl
  intro K hK
  go_simp
  refine hK _ _ ?_
  clear hK K
  refine @BigFrame.wpList_want _ _ _ _ _ _ _ ?hwb3 ?_
  case hwb3 => kernel_rfl
  intro K hK
  go_simp
  go_at_call 36; refine (HSE.out _).mono ?_; rintro e w3 ⟨rfl, kw3⟩
  refine hK _ _ ?_
  clear hK K
  refine @BigFrame.wpList_want _ _ _ _ _ _ _ ?hwb4 ?_
  case hwb4 => kernel_rfl
  intro K hK
  go_simp
  refine hK _ _ ?_
  clear hK K
  have Kw3 : Kept w1.heap.size w1.heap.size w1 w3 := Kw2.trans (kw3.mono Kw2.size (fun i hi _ => Nat.ne_of_lt (Nat.lt_of_lt_of_le hi Kw2.size)))
  have HKK := Lib.hid (HK1.out.trans (Kw3.mono HK1.out.size (fun i hi _ => by have := HK1.out.size; omega)))
  clear Kw3 Kw2 kw2 kw3 HP2 KD
  have heq2 := HEQ.out
  by_cases hq : sl = s
  · have hse2 := heq2.2 hq
    clear heq2
    subst hse2
    go_wp2
    refine bodyPost_ret (results_tmp2 rfl _ _ _) rfl ?_
    obtain ⟨r1, r2⟩ := HPOS.out hq
    exact ⟨by rw [r1, r2, HST.out]; rfl, HKK.out⟩
  · have hne : ¬ ssl = sx := fun e => hq (heq2.1 e)
    have hnb : (ssl.toList == sx.toList) = false := by
      rw [ByteArray.toList_eq, ByteArray.toList_eq]
      exact beq_eq_false_iff_ne.2 (fun e => hne (ByteArray.ext (Array.ext' e)))
    clear heq2
    go_wp2
    refine bodyPost_ret (results_tmp2 rfl _ _ _) rfl ?_
    obtain ⟨r1, r2⟩ := HNEG.out hq
    exact ⟨by rw [r1, r2]; rfl, HKK.out⟩

theorem refopen_calls (k : List UInt8) (hk : Hid (k.length = 32)) (about : ByteArray) (h1 : Hid (about.size ≤ 3000)) (s : List UInt8) (hs : Hid (s.length ≤ 3000)) (w : World) : Calls Try.prog 38 #[.agg (bcells k).toArray, .string about, .string (str s)] w fun e w' => e = .returned (.tuple #[.string (str (Pm.opened k about.data.toList s).1), .int .i64 (((Pm.opened k about.data.toList s).2 : Nat) : Int)]) ∧ Kept w.heap.size w.heap.size w w' := by
  by_cases h16 : s.length < 16
  · rw [Pm.opened, if_pos h16]
    exact refopen_short k about s h16 w
  · exact refopen_right k hk about h1 s (s.length - 16) (by omega) hs w

end Go.Proofs.Ytdedookpdnbdiaa

namespace Go.Proofs.Ytdedookpdnbdiaa
open Go.RowKit Go.Lib

set_option maxRecDepth 100000 in
set_option maxHeartbeats 3200000 in
theorem refunwrap_short (k : List UInt8) (about : ByteArray) (s : List UInt8) (hs : s.length < 48) (w : World) : Calls Try.prog 39 #[.agg (bcells k).toArray, .string about, .string (str s)] w fun e w' => e = .returned (.tuple #[.string ⟨#[]⟩, .int .i64 2]) ∧ Kept w.heap.size w.heap.size w w' := by
  generalize (bcells k).toArray = kc
  have hd : decide (((str s).size : Int) < 48) = true := decide_eq_true (by rw [str_size]; omega)
  generalize str s = sx at hd ⊢
  go_enter Try.func39, Try.ntmps39
  go_wp2
  refine bodyPost_ret (results_tmp2 rfl _ _ _) rfl ?_
  exact ⟨rfl, (Kept.refl _ _ _).alloc (Nat.le_refl _) _⟩

set_option maxRecDepth 100000 in
set_option maxHeartbeats 3200000 in
theorem refunwrap_long (k : List UInt8) (hk : Hid (k.length = 32)) (about : ByteArray) (h1 : Hid (about.size ≤ 3000)) (s : List UInt8) (h48 : 48 ≤ s.length) (hs : Hid (s.length ≤ 3000)) (w : World) : Calls Try.prog 39 #[.agg (bcells k).toArray, .string about, .string (str s)] w fun e w' => e = .returned (.tuple #[.string (str (Pm.unwrapped k about.data.toList s).1), .int .i64 (((Pm.unwrapped k about.data.toList s).2 : Nat) : Int)]) ∧ Kept w.heap.size w.heap.size w w' := by
  have hs3 := hs.out
  rw [Pm.unwrapped, if_neg (by omega)]
  have hol : (s.take 32).length = 32 := by rw [List.length_take]; omega
  have hx0 : (str s).extract 0 32 = str (s.take 32) := str_take s 32
  have hx : (str s).extract 32 (str s).size = str (s.drop 32) := str_drop s 32
  have hku := keyInfoP hk.out
  generalize hkc : (bcells k).toArray = kc at hku
  have hpb : ∀ w', Calls Try.prog 23 #[.agg kc] w' fun e w'' => e = .returned (.agg (bcells (Pm.pub k)).toArray) ∧ Kept w'.heap.size w'.heap.size w' w'' := fun w' => by
    rw [← hkc]
    exact refpub_calls k hk w'
  have hsk : ∀ w', Calls Try.prog 45 #[.agg (bcells (Pm.pub k)).toArray, .string (str (s.take 32))] w' fun e w'' => e = .returned (.agg (bcells (Pm.kem (Pm.pub k) (s.take 32))).toArray) ∧ Kept w'.heap.size w'.heap.size w' w'' := fun w' => refshared_calls (Pm.pub k) (Lib.hid (Pm.pub_length k)) (s.take 32) (by omega) w'
  have hoc : ∀ w', Calls Try.prog 38 #[.agg (bcells (Pm.kem (Pm.pub k) (s.take 32))).toArray, .string about, .string (str (s.drop 32))] w' fun e w'' => e = .returned (.tuple #[.string (str (Pm.opened (Pm.kem (Pm.pub k) (s.take 32)) about.data.toList (s.drop 32)).1), .int .i64 (((Pm.opened (Pm.kem (Pm.pub k) (s.take 32)) about.data.toList (s.drop 32)).2 : Nat) : Int)]) ∧ Kept w'.heap.size w'.heap.size w' w'' := fun w' => refopen_calls _ (Lib.hid (Pm.kem_length _ _)) about h1 (s.drop 32) (Lib.hid (by rw [List.length_drop]; omega)) w'
  generalize (Pm.opened (Pm.kem (Pm.pub k) (s.take 32)) about.data.toList (s.drop 32)).2 = er at hoc ⊢
  generalize str (Pm.opened (Pm.kem (Pm.pub k) (s.take 32)) about.data.toList (s.drop 32)).1 = ot at hoc ⊢
  generalize (bcells (Pm.kem (Pm.pub k) (s.take 32))).toArray = cs at hsk hoc
  generalize (bcells (Pm.pub k)).toArray = cp at hpb hsk
  have hd : decide (((str s).size : Int) < 48) = false := decide_eq_false (by rw [str_size]; omega)
  have hb1 : (32 : Int) ≤ ((str s).size : Int) := by rw [str_size]; omega
  have hb2 : ¬ (((str s).size : Int) < 32) := by rw [str_size]; omega
  generalize str s = sx at hx0 hx hd hb1 hb2 ⊢
  generalize str (s.drop 32) = sr at hx hoc
  generalize str (s.take 32) = so at hx0 hsk
  have HKI := Lib.hid hku
  have HPB := Lib.hid hpb
  have HSK := Lib.hid hsk
  have HOC := Lib.hid hoc
  clear hku hpb hsk hoc hkc hol hs3
  go_enter Try.func39, Try.ntmps39
  go_upto_region 3 with fail
  have hP : (w.alloc (.cells kc 33)).heap[w.heap.size]? = some (.cells kc 33 (0, 0)) := heap_new _ _
  have k1 : Kept w.heap.size w.heap.size w (w.alloc (.cells kc 33)) := (Kept.refl _ _ _).alloc (Nat.le_refl _) _
  generalize w.alloc (.cells kc 33) = w1 at hP k1 ⊢
  obtain ⟨wa, hwa⟩ : ∃ wa, wa = w.heap.size := ⟨_, rfl⟩
  rw [← hwa] at hP ⊢
  have HP := Lib.hid hP
  have HK1 := Lib.hid k1
  clear hwa hP k1
  have hld : ∀ w', Kept w1.heap.size w1.heap.size w1 w' → (loadVar 33 ⟨wa, 0, none⟩).run Try.prog w' = .ok (.agg kc) w' := fun w' kk => run_loadVar_row w' wa 33 33 kc (0, 0) _ ((kk.block _ (lt_of_block HP.out) (Nat.ne_of_lt (lt_of_block HP.out))).trans HP.out) Try.underlying33 rfl HKI.out
  have HLD := Lib.hid hld
  clear hld
  have KD : Kept w1.heap.size w1.heap.size w1 w1.drew := (Kept.refl _ _ _).drew
  refine wp_region_noPanic ?_
  refine wp_region_held_drew (S := fun w' => Kept w1.heap.size w1.heap.size w1 w') (by kernel_rfl) (KD) (fun hH => ?_)
  refine wpAnyH_take_at (i := 0) 11 (.agg kc) rfl rfl (by kernel_rfl) (by kernel_rfl) (by kernel_rfl) (fun _ _ _ h => h) (yieldsIf_load_known (by rfl) 33 _ rfl (wa) (0) rfl (.agg kc) (fun w' hw' => (HLD.out w' hw'))) hH ?_
  simp only [List.setIfInBounds_toArray, List.set_cons_zero, List.set_cons_succ]
  refine wpAnyH_take_at (i := 2) 13 (.string sx) rfl rfl (by kernel_rfl) (by kernel_rfl) (by kernel_rfl) (fun _ _ _ h => h) (.inl ⟨by rfl, fun w9 _ => by go_simp⟩) hH ?_
  simp only [List.setIfInBounds_toArray, List.set_cons_zero, List.set_cons_succ]
  refine wpAnyH_take_at (i := 3) 14 (.string so) rfl rfl (by kernel_rfl) (by kernel_rfl) (by kernel_rfl) (fun _ _ _ h => h) (.inl ⟨by rfl, fun w9 _ => by go_simp⟩) hH ?_
  simp only [List.setIfInBounds_toArray, List.set_cons_zero, List.set_cons_succ]
  refine wpAnyH_take_at (i := 5) 16 (.string about) rfl rfl (by kernel_rfl) (by kernel_rfl) (by kernel_rfl) (fun _ _ _ h => h) (.inl ⟨by rfl, fun w9 _ => by go_simp⟩) hH ?_
  simp only [List.setIfInBounds_toArray, List.set_cons_zero, List.set_cons_succ]
  refine wpAnyH_take_at (i := 6) 17 (.string sx) rfl rfl (by kernel_rfl) (by kernel_rfl) (by kernel_rfl) (fun _ _ _ h => h) (.inl ⟨by rfl, fun w9 _ => by go_simp⟩) hH ?_
  simp only [List.setIfInBounds_toArray, List.set_cons_zero, List.set_cons_succ]
  refine wpAnyH_take_at (i := 7) 18 (.string sr) rfl rfl (by kernel_rfl) (by kernel_rfl) (by kernel_rfl) (fun _ _ _ h => h) (.inl ⟨by rfl, fun w9 _ => by go_simp⟩) hH ?_
  simp only [List.setIfInBounds_toArray, List.set_cons_zero, List.set_cons_succ]
  refine wpAnyH_ready (rs := [1]) (by kernel_rfl) (by simp) ?_
  refine AllReadyH.cons rfl (fun K hK => ?_) AllReadyH.nil
  rw [if_pos (by rfl)]
  go_simp
  go_wp2_with (go_at_call 23; refine (HPB.out _).mono ?_; rintro e w2 ⟨rfl, kw2⟩)
  have Kw2 : Kept w1.heap.size w1.heap.size w1 w2 := KD.trans (kw2.mono KD.size (fun i hi _ => Nat.ne_of_lt (Nat.lt_of_lt_of_le hi KD.size)))
  refine hK.out _ _ (Kw2) (fun hH => ?_)
  clear hK K
  refine wpAnyH_ready (rs := [4]) (by kernel_rfl) (by simp) ?_
  refine AllReadyH.cons rfl (fun K hK => ?_) AllReadyH.nil
  rw [if_pos (by rfl)]
  go_simp
  go_wp2_with (go_at_call 45; refine (HSK.out _).mono ?_; rintro e w3 ⟨rfl, kw3⟩)
  have Kw3 : Kept w1.heap.size w1.heap.size w1 w3 := Kw2.trans (kw3.mono Kw2.size (fun i hi _ => Nat.ne_of_lt (Nat.lt_of_lt_of_le hi Kw2.size)))
  refine hK.out _ _ (Kw3) (fun hH => ?_)
  clear hK K
  refine wpAnyH_ready (rs := [8]) (by kernel_rfl) (by simp) ?_
  refine AllReadyH.cons rfl (fun K hK => ?_) AllReadyH.nil
  rw [if_pos (by rfl)]
  go_simp
  go_wp2_with (go_at_call 38; refine (HOC.out _).mono ?_; rintro e w4 ⟨rfl, kw4⟩)
  have Kw4 : Kept w1.heap.size w1.heap.size w1 w4 := Kw3.trans (kw4.mono Kw3.size (fun i hi _ => Nat.ne_of_lt (Nat.lt_of_lt_of_le hi Kw3.size)))
  refine hK.out _ _ (Kw4) (fun hH => ?_)
  clear hK K
  refine wpAnyH_take_at (i := 9) 20 (.string ot) rfl rfl (by kernel_rfl) (by kernel_rfl) (by kernel_rfl) (fun _ _ _ h => h) (.inl ⟨by rfl, fun w9 _ => by go_simp⟩) hH ?_
  simp only [List.setIfInBounds_toArray, List.set_cons_zero, List.set_cons_succ]
  refine wpAnyH_take_at (i := 10) 21 (.int .i64 (er : Int)) rfl rfl (by kernel_rfl) (by kernel_rfl) (by kernel_rfl) (fun _ _ _ h => h) (.inl ⟨by rfl, fun w9 _ => by go_simp⟩) hH ?_
  simp only [List.setIfInBounds_toArray, List.set_cons_zero, List.set_cons_succ]
  refine wpAnyH_take_at (i := 11) 6 (.string ot) rfl rfl (by kernel_rfl) (by kernel_rfl) (by kernel_rfl) (fun _ _ _ h => h) (.inl ⟨by rfl, fun w9 _ => by go_simp⟩) hH ?_
  simp only [List.setIfInBounds_toArray, List.set_cons_zero, List.set_cons_succ]
  refine wpAnyH_take_at (i := 12) 7 (.int .i64 (er : Int)) rfl rfl (by kernel_rfl) (by kernel_rfl) (by kernel_rfl) (fun _ _ _ h => h) (.inl ⟨by rfl, fun w9 _ => by go_simp⟩) hH ?_
  simp only [List.setIfInBounds_toArray, List.set_cons_zero, List.set_cons_succ]
  refine wpAnyH_done (by kernel_rfl) ?_ _
  refine NoPanic.normal ?_
  go_wp2
  refine bodyPost_ret (results_tmp2 rfl _ _ _) rfl ?_
  exact ⟨rfl, HK1.out.trans (Kw4.mono HK1.out.size (fun i hi _ => by have := HK1.out.size; omega))⟩

theorem refunwrap_calls (k : List UInt8) (hk : Hid (k.length = 32)) (about : ByteArray) (h1 : Hid (about.size ≤ 3000)) (s : List UInt8) (hs : Hid (s.length ≤ 3000)) (w : World) : Calls Try.prog 39 #[.agg (bcells k).toArray, .string about, .string (str s)] w fun e w' => e = .returned (.tuple #[.string (str (Pm.unwrapped k about.data.toList s).1), .int .i64 (((Pm.unwrapped k about.data.toList s).2 : Nat) : Int)]) ∧ Kept w.heap.size w.heap.size w w' := by
  by_cases h48 : s.length < 48
  · rw [Pm.unwrapped, if_pos h48]
    exact refunwrap_short k about s h48 w
  · exact refunwrap_long k hk about h1 s (by omega) hs w

set_option maxRecDepth 100000 in
set_option maxHeartbeats 3200000 in
theorem refwrap_calls (p k : List UInt8) (hp : Hid (p.length = 32)) (hk : Hid (k.length = 32)) (about : ByteArray) (h1 : Hid (about.size ≤ 3000)) (s : List UInt8) (hs : Hid (s.length ≤ 3000)) (w : World) : Calls Try.prog 41 #[.agg (bcells p).toArray, .agg (bcells k).toArray, .string about, .string (str s)] w fun e w' => e = .returned (.string (str (Pm.wrapped p k about.data.toList s))) ∧ Kept w.heap.size w.heap.size w w' := by
  have hs3 := hs.out
  have hpi := keyInfoP hp.out
  have hoi := keyInfoP hk.out
  have htx := fun w' => text_calls k hk w'
  have hsk := fun w' => refshared_calls p hp k (by have := hk.out; omega) w'
  have hse := fun w' => refseal_calls (Pm.kem p k) (Lib.hid (Pm.kem_length p k)) about h1 s hs w'
  have hcat : str k ++ str (Pm.sealed (Pm.kem p k) about.data.toList s) = str (Pm.wrapped p k about.data.toList s) := by rw [str_append, Pm.wrapped]
  have hz1 : (str k).size ≤ 100 := by rw [str_size, hk.out]; decide
  have hz2 : (str (Pm.sealed (Pm.kem p k) about.data.toList s)).size ≤ 4000 := by rw [str_size, Pm.sealed_length]; omega
  generalize str (Pm.wrapped p k about.data.toList s) = res at hcat ⊢
  generalize str (Pm.sealed (Pm.kem p k) about.data.toList s) = ssl at hse hcat hz2
  generalize (bcells (Pm.kem p k)).toArray = ck at hsk hse
  have hd : decide ((65536 : Int) < ((str s).size : Int)) = false := decide_eq_false (by rw [str_size]; omega)
  generalize str s = sx at hse hd ⊢
  generalize str k = so at htx hsk hcat hz1
  generalize (bcells p).toArray = pc at hpi hsk ⊢
  generalize (bcells k).toArray = oc at hoi htx ⊢
  have HPI := Lib.hid hpi
  have HOI := Lib.hid hoi
  have HTX := Lib.hid htx
  have HSK := Lib.hid hsk
  have HSE := Lib.hid hse
  have HCAT := Lib.hid hcat
  clear hpi hoi htx hsk hse hcat hs3
  go_enter Try.func41, Try.ntmps41
  go_upto_region 3 with fail
  have hP : ((w.alloc (.cells pc 33)).alloc (.cells oc 33)).heap[w.heap.size]? = some (.cells pc 33 (0, 0)) := heap_alloc2_old w _ _
  have hO : ((w.alloc (.cells pc 33)).alloc (.cells oc 33)).heap[w.heap.size + 1]? = some (.cells oc 33 (0, 0)) := heap_alloc2_last w _ _
  have k1 : Kept w.heap.size w.heap.size w ((w.alloc (.cells pc 33)).alloc (.cells oc 33)) := ((Kept.refl _ _ _).alloc (Nat.le_refl _) _).alloc (by simp) _
  generalize (w.alloc (.cells pc 33)).alloc (.cells oc 33) = w1 at hP hO k1 ⊢
  obtain ⟨wa, hwa⟩ : ∃ wa, wa = w.heap.size := ⟨_, rfl⟩
  rw [← hwa] at hP hO ⊢
  have HP := Lib.hid hP
  have HO := Lib.hid hO
  have HK1 := Lib.hid k1
  clear hwa hP hO k1
  have hld : ∀ w', Kept w1.heap.size w1.heap.size w1 w' → (loadVar 33 ⟨wa, 0, none⟩).run Try.prog w' = .ok (.agg pc) w' ∧ (loadVar 33 ⟨wa + 1, 0, none⟩).run Try.prog w' = .ok (.agg oc) w' := fun w' kk =>
    ⟨run_loadVar_row w' wa 33 33 pc (0, 0) _ ((kk.block _ (lt_of_block HP.out) (Nat.ne_of_lt (lt_of_block HP.out))).trans HP.out) Try.underlying33 rfl HPI.out, run_loadVar_row w' (wa + 1) 33 33 oc (0, 0) _ ((kk.block _ (lt_of_block HO.out) (Nat.ne_of_lt (lt_of_block HO.out))).trans HO.out) Try.underlying33 rfl HOI.out⟩
  have HLD := Lib.hid hld
  clear hld
  have KD : Kept w1.heap.size w1.heap.size w1 w1.drew := (Kept.refl _ _ _).drew
  refine wp_region_noPanic ?_
  refine wp_region_held_drew (S := fun w' => Kept w1.heap.size w1.heap.size w1 w') (by kernel_rfl) (KD) (fun hH => ?_)
  refine wpAnyH_take_at (i := 0) 12 (.agg oc) rfl rfl (by kernel_rfl) (by kernel_rfl) (by kernel_rfl) (fun _ _ _ h => h) (yieldsIf_load_known (by rfl) 33 _ rfl (wa + 1) (0) rfl (.agg oc) (fun w' hw' => (HLD.out w' hw').2)) hH ?_
  simp only [List.setIfInBounds_toArray, List.set_cons_zero, List.set_cons_succ]
  refine wpAnyH_take_at (i := 2) 14 (.agg pc) rfl rfl (by kernel_rfl) (by kernel_rfl) (by kernel_rfl) (fun _ _ _ h => h) (yieldsIf_load_known (by rfl) 33 _ rfl (wa) (0) rfl (.agg pc) (fun w' hw' => (HLD.out w' hw').1)) hH ?_
  simp only [List.setIfInBounds_toArray, List.set_cons_zero, List.set_cons_succ]
  refine wpAnyH_take_at (i := 3) 15 (.agg oc) rfl rfl (by kernel_rfl) (by kernel_rfl) (by kernel_rfl) (fun _ _ _ h => h) (yieldsIf_load_known (by rfl) 33 _ rfl (wa + 1) (0) rfl (.agg oc) (fun w' hw' => (HLD.out w' hw').2)) hH ?_
  simp only [List.setIfInBounds_toArray, List.set_cons_zero, List.set_cons_succ]
  refine wpAnyH_take_at (i := 6) 18 (.string about) rfl rfl (by kernel_rfl) (by kernel_rfl) (by kernel_rfl) (fun _ _ _ h => h) (.inl ⟨by rfl, fun w9 _ => by go_simp⟩) hH ?_
  simp only [List.setIfInBounds_toArray, List.set_cons_zero, List.set_cons_succ]
  refine wpAnyH_take_at (i := 7) 19 (.string sx) rfl rfl (by kernel_rfl) (by kernel_rfl) (by kernel_rfl) (fun _ _ _ h => h) (.inl ⟨by rfl, fun w9 _ => by go_simp⟩) hH ?_
  simp only [List.setIfInBounds_toArray, List.set_cons_zero, List.set_cons_succ]
  refine wpAnyH_ready (rs := [1]) (by kernel_rfl) (by simp) ?_
  refine AllReadyH.cons rfl (fun K hK => ?_) AllReadyH.nil
  rw [if_pos (by rfl)]
  go_simp
  go_wp2_with (go_at_call 70; refine (HTX.out _).mono ?_; rintro e w2 ⟨rfl, kw2⟩)
  have Kw2 : Kept w1.heap.size w1.heap.size w1 w2 := KD.trans (kw2.mono KD.size (fun i hi _ => Nat.ne_of_lt (Nat.lt_of_lt_of_le hi KD.size)))
  refine hK.out _ _ (Kw2) (fun hH => ?_)
  clear hK K
  refine wpAnyH_ready (rs := [4]) (by kernel_rfl) (by simp) ?_
  refine AllReadyH.cons rfl (fun K hK => ?_) AllReadyH.nil
  rw [if_pos (by rfl)]
  go_simp
  go_wp2_with (go_at_call 70; refine (HTX.out _).mono ?_; rintro e w3 ⟨rfl, kw3⟩)
  have Kw3 : Kept w1.heap.size w1.heap.size w1 w3 := Kw2.trans (kw3.mono Kw2.size (fun i hi _ => Nat.ne_of_lt (Nat.lt_of_lt_of_le hi Kw2.size)))
  refine hK.out _ _ (Kw3) (fun hH => ?_)
  clear hK K
  refine wpAnyH_ready (rs := [5]) (by kernel_rfl) (by simp) ?_
  refine AllReadyH.cons rfl (fun K hK => ?_) AllReadyH.nil
  rw [if_pos (by rfl)]
  go_simp
  go_wp2_with (go_at_call 45; refine (HSK.out _).mono ?_; rintro e w4 ⟨rfl, kw4⟩)
  have Kw4 : Kept w1.heap.size w1.heap.size w1 w4 := Kw3.trans (kw4.mono Kw3.size (fun i hi _ => Nat.ne_of_lt (Nat.lt_of_lt_of_le hi Kw3.size)))
  refine hK.out _ _ (Kw4) (fun hH => ?_)
  clear hK K
  refine wpAnyH_ready (rs := [8]) (by kernel_rfl) (by simp) ?_
  refine AllReadyH.cons rfl (fun K hK => ?_) AllReadyH.nil
  rw [if_pos (by rfl)]
  go_simp
  go_wp2_with (go_at_call 36; refine (HSE.out _).mono ?_; rintro e w5 ⟨rfl, kw5⟩)
  have Kw5 : Kept w1.heap.size w1.heap.size w1 w5 := Kw4.trans (kw5.mono Kw4.size (fun i hi _ => Nat.ne_of_lt (Nat.lt_of_lt_of_le hi Kw4.size)))
  refine hK.out _ _ (Kw5) (fun hH => ?_)
  clear hK K
  refine wpAnyH_take_at (i := 9) 21 (.string res) rfl rfl (by kernel_rfl) (by kernel_rfl) (by kernel_rfl) (fun _ _ _ h => h) (.inl ⟨by rfl, fun w9 _ => by go_simp; rw [HCAT.out, if_neg (by omega)]⟩) hH ?_
  simp only [List.setIfInBounds_toArray, List.set_cons_zero, List.set_cons_succ]
  refine wpAnyH_take_at (i := 10) 8 (.string res) rfl rfl (by kernel_rfl) (by kernel_rfl) (by kernel_rfl) (fun _ _ _ h => h) (.inl ⟨by rfl, fun w9 _ => by go_simp⟩) hH ?_
  simp only [List.setIfInBounds_toArray, List.set_cons_zero, List.set_cons_succ]
  refine wpAnyH_done (by kernel_rfl) ?_ _
  refine NoPanic.normal ?_
  go_wp2
  go_ret
  exact ⟨rfl, HK1.out.trans (Kw5.mono HK1.out.size (fun i hi _ => by have := HK1.out.size; omega))⟩

end Go.Proofs.Ytdedookpdnbdiaa
