/-
 BookLaid; BookSort; BookFol; BookKnows: several texts in one.
-/
import Derived.Test.YtanfnafiofkihaaGF
import Derived.Laws.ResultCell
import Derived.Laws.Rows
import Derived.Laws.CopyRow
import Derived.Laws.CopyOwn
import Derived.Laws.Tables
import Derived.Test.YtanfnafiofkihaaGD
import Derived.Test.YtanfnafiofkihaaSortLay
import Derived.Test.YtanfnafiofkihaaGE
import Derived.Maps.RangeWalk
import Derived.Laws.MakeOwn

namespace Go.Proofs.Ytanfnafiofkihaa
open Go.RowKit Go.Lib

theorem named_ret {fn : Func} {p u : Tmp} (h : fn.results = #[.cell p 26, .tmp u]) {R : Ending → World → Prop} {a : Act} {w : World} (g : Nat) (cs : Array Value) (hp : a.tmps.getD p undef = .pointer (some ⟨g, 0, none⟩)) (hg : w.heap[g]? = some (.cells cs 26 (0, 0))) (hs : cs.size = 32) (hd : a.defers = []) (hR : R (.returned (.tuple #[.agg cs, a.tmps.getD u undef])) w) : bodyPost Try.prog fn R .ret a w := by
 have hia : (Try.prog.info? 26).map (·.size) = some cs.size := by rw [hs]; kernel_rfl
 refine bodyPost_ret ?_ hd hR
 rw [results_cell_tmp h, hp]
 simp only [asAddr, Sem.run_pure, Result.andThen_ok]
 rw [run_loadVar_row w g 26 26 cs (0, 0) _ hg Try.underlying26 rfl hia]
 rfl

theorem build_zero (w : World) : (Instr.build 26 #[]).run Try.prog w = .ok (.agg zeros32) w := by
 rw [← zeros32_eq]
 kernel_rfl
end Go.Proofs.Ytanfnafiofkihaa

namespace Go.Proofs.Ytanfnafiofkihaa
open Go.RowKit Go.Lib

set_option maxRecDepth 100000 in
/-- The landed Cmp only lays blocks of its own. -/
theorem cmp_grows (l m : List UInt8) (hl : l.length = 32) (hm : m.length = 32) (w : World) : Calls Try.prog 50 #[.agg (bcells l).toArray, .agg (bcells m).toArray] w fun e w' => e = .returned (.int .i64 (compareBytes l m)) ∧ ∃ q os', w' = Go.Sort.grow (w.drewN q) os' := by
 generalize hq1 : (bcells l).toArray = cs
 generalize hq2 : (bcells m).toArray = ds
 have HQ1 := Lib.hid hq1.symm
 have HQ2 := Lib.hid hq2.symm
 clear hq1 hq2
 go_enter Try.func50, Try.ntmps50
 go_wp2_with fail
 have hA : ((w.alloc (.cells cs 26)).alloc (.cells ds 26)).heap[w.heap.size]? = some (.cells cs 26 (0, 0)) := heap_alloc2_old w _ _
 have hB : ((w.alloc (.cells cs 26)).alloc (.cells ds 26)).heap[w.heap.size + 1]? = some (.cells ds 26 (0, 0)) := heap_alloc2_last w _ _
 have hG : (w.alloc (.cells cs 26)).alloc (.cells ds 26) = Go.Sort.grow w #[.cells cs 26, .cells ds 26] := by rw [Go.Sort.alloc_eq_grow, Go.Sort.alloc_eq_grow, Go.Sort.grow_grow]; rfl
 generalize (w.alloc (.cells cs 26)).alloc (.cells ds 26) = w2 at hA hB hG ⊢
 rw [HQ1.out] at hA
 rw [HQ2.out] at hB
 have hcall : ∀ n, Calls Try.prog 79 #[.slice (some ⟨w.heap.size, 0, none⟩) 32 32, .slice (some ⟨w.heap.size + 1, 0, none⟩) 32 32] (w2.drewN n) fun e w' => e = .returned (.int .i64 (compareBytes l m)) ∧ w' = w2.drewN n := fun n => by
  have := comparebytes_calls l m w.heap.size (w.heap.size + 1) 32 32 (w2.drewN n) (fun j hj => cells_get hA (bcells_get l j hj)) (fun j hj => cells_get hB (bcells_get m j hj))
  rw [hl, hm] at this
  exact this
 have Hcall := Lib.hid hcall
 have HG := Lib.hid hG
 have s1 := fun w => slice_hash w
 clear hcall hG hA hB
 go_quiet ((go_at_call 79; exact Calls.quiet_of_same (Hcall.out _)))
 go_wp2
 go_ret
 exact ⟨rfl, _, _, by rw [HG.out]; rfl⟩

/-- A digest. -/
abbrev H32 : Type := {l : List UInt8 // l.length = 32}
instance : Inhabited H32 := ⟨⟨List.replicate 32 0, by simp⟩⟩
def enc32 (x : H32) : List Value := bcells x.1
def cmp32 (x y : H32) : Int := compareBytes x.1 y.1
theorem lt32 (x y : H32) : Go.Proofs.ltOf cmp32 x y = Bk.less x.1 y.1 := rfl
theorem swo32 : Go.Sort.SWO (Go.Proofs.ltOf cmp32) where
 irrefl x := by rw [lt32]; exact Bk.less_irrefl _
 trans x y z h1 h2 := by rw [lt32] at *; exact Bk.less_trans h1 h2
 ntrans x y z h1 h2 := by
  rw [lt32] at *
  by_cases hxz : x.1 = z.1
  ·rw [hxz]; exact Bk.less_irrefl _
  ·cases h : Bk.less x.1 z.1 with
   | false => rfl
   | true =>
    by_cases hxy : x.1 = y.1
    ·rw [← hxy] at h2; rw [h] at h2; cases h2
    ·have h3 := Bk.less_total h1 hxy
     have h4 := Bk.less_trans h3 h
     rw [h2] at h4; cases h4
theorem cmpLays32 (blk off size : Nat) (w : World) : Go.Proofs.CmpLays Try.prog 50 #[] enc32 32 cmp32 blk off size w :=
 fun _ _ _ _ x y => cmp_grows x.1 y.1 x.2 y.2 _

def toHL : (R : List (List UInt8)) → (∀ x ∈ R, x.length = 32) → List H32
 | [], _ => []
 | x :: R, h => ⟨x, h x (by simp)⟩ :: toHL R (fun y hy => h y (by simp [hy]))
theorem toHL_map : ∀ (R : List (List UInt8)) (h : ∀ x ∈ R, x.length = 32), (toHL R h).map (fun x => x.1) = R
 | [], _ => rfl
 | x :: R, h => by rw [toHL, List.map_cons, toHL_map R]
def toH (R : List (List UInt8)) (h : ∀ x ∈ R, x.length = 32) : Array H32 := (toHL R h).toArray
theorem toH_list (R : List (List UInt8)) (h : ∀ x ∈ R, x.length = 32) : (toH R h).toList.map (fun x => x.1) = R := toHL_map R h
theorem toH_size (R : List (List UInt8)) (h : ∀ x ∈ R, x.length = 32) : (toH R h).size = R.length := by
 have := congrArg List.length (toH_list R h)
 simpa using this
theorem toH_at (R : List (List UInt8)) (h : ∀ x ∈ R, x.length = 32) (i : Nat) (hi : i < R.length) : ((toH R h)[i]!).1 = R[i] := by
 have hi2 : i < (toH R h).size := by rw [toH_size]; exact hi
 rw [getElem!_pos (toH R h) i hi2]
 have := List.getElem_of_eq (toH_list R h) (i := i) (by simpa using hi2)
 simpa using this
theorem flat_at {d : Array H32} {i j : Nat} (hi : i < d.size) (hj : j < 32) : (Go.Sort.flatK enc32 32 d)[i * 32 + j]! = (enc32 d[i]!)[j]! := by
 have ht : i * 32 + j < d.size * 32 := by omega
 rw [Go.Sort.get_flatK _ _ _ _ ht, show (i * 32 + j) / 32 = i by omega, show (i * 32 + j) % 32 = j by omega]

set_option maxRecDepth 100000 in
/-- The sort: the same digests, rising. -/
theorem sort_calls (R : List (List UInt8)) (base g c : Nat) (w : World) (hR : OwnH w base (.slice (some ⟨g, 0, none⟩) R.length c) R) (hn : R.length < 1073741824) :
  Calls Try.prog 49 #[.slice (some ⟨g, 0, none⟩) R.length c, .func (.func 50) #[] #[]] w fun e w' => e = .returned (.tuple #[]) ∧ ∃ R', R'.Perm R ∧ R'.Pairwise (fun a b => Bk.less b a = false) ∧ Hs w' (.slice (some ⟨g, 0, none⟩) R.length c) R' ∧ Kept w.heap.size g w w' := by
 obtain ⟨h32, ho⟩ := hR
 have hg : g < w.heap.size := (ho.lt g rfl).2
 have hgg : ∃ cur, w.heap[g]? = some (.cells cur 26 (0, 0)) := by
  rcases ho.2 with ⟨h, _⟩ | ⟨g', cap, cur, hv, _, hh, _⟩
  ·cases h
  ·cases hv
   exact ⟨cur, hh⟩
 obtain ⟨cur, hcur⟩ := hgg
 have hH : Go.Sort.HoldsK enc32 32 w g 0 (toH R h32) := fun t ht => by
  rw [Go.Sort.size_flatK, toH_size] at ht
  have hi : t / 32 < R.length := by omega
  have hj : t % 32 < 32 := Nat.mod_lt _ (by decide)
  have hat := flat_at (d := toH R h32) (i := t / 32) (j := t % 32) (by rw [toH_size]; exact hi) hj
  rw [show t / 32 * 32 + t % 32 = t by omega] at hat
  refine ⟨?_, by simp [World.frozen?, hcur]⟩
  have hx32 := h32 _ (List.getElem_mem hi)
  have hfl := flatten_at R h32 (t / 32) hi (t % 32) hj
  rw [show t / 32 * 32 + t % 32 = t by omega] at hfl
  have hc := ho.cells (g := g) rfl t (.int .u8 ((R[t / 32]'hi)[t % 32]'(by rw [hx32]; exact hj)).toNat) (by
   rw [bcells, List.getElem?_map, hfl, List.getElem?_eq_getElem (by rw [hx32]; exact hj)]
   rfl)
  rw [Addr.add_lit] at hc
  rw [hc, hat]
  have e1 := toH_at R h32 (t / 32) hi
  simp only [enc32, e1, bcells]
  rw [getElem!_pos _ _ (by rw [List.length_map, hx32]; exact hj)]
  simp
 have eg : ∀ args w, (callFunc 50 args).run Try.prog w = .ok (.enter 50 args) w := enters_of Try.func50 (by kernel_rfl) rfl
 have hcon := Go.Proofs.AnyQ.slices_SortFunc Try.sortH 32 Try.isAgg26 Try.sizeOf26 enc32 (fun x => by rw [enc32, bcells_length, x.2]) (fun x v hv => bcells_one _ v hv) cmp32 swo32 50 #[] g 0 c (toH R h32) w eg (cmpLays32 g 0 _ w) hH hg (by rw [toH_size]; omega)
 rw [toH_size] at hcon
 refine hcon.mono ?_
 rintro e w' ⟨rfl, d', n, os, hp, hs, rfl⟩
 obtain ⟨p1, _, p3⟩ := hp
 rw [toH_size] at p1
 have p1' : d'.size = R.length := p1
 have hd : ∀ x ∈ d'.toList.map (fun x => x.1), x.length = 32 := fun x hx => by
  obtain ⟨y, _, rfl⟩ := List.mem_map.1 hx
  exact y.2
 have hlen : (d'.toList.map (fun x => x.1)).length = R.length := by simp [p1']
 refine ⟨rfl, d'.toList.map (fun x => x.1), ?_, ?_, ?_, ?_⟩
 ·have h1 : (d'.extract 0 R.length).toList = d'.toList := by rw [Array.toList_extract, List.extract_eq_take_drop, List.drop_zero]; exact List.take_of_length_le (by rw [Array.length_toList]; omega)
  have h2 : ((toH R h32).extract 0 R.length).toList = (toH R h32).toList := by rw [Array.toList_extract, List.extract_eq_take_drop, List.drop_zero]; exact List.take_of_length_le (by rw [Array.length_toList, toH_size]; omega)
  rw [h1, h2] at p3
  have := p3.map (fun x : H32 => x.1)
  rwa [toH_list] at this
 ·rw [List.pairwise_map, List.pairwise_iff_getElem]
  intro i j hi hj hij
  have hi2 : i < d'.size := by simpa using hi
  have hj2 : j < d'.size := by simpa using hj
  have := hs i j (Nat.zero_le _) hij (by omega)
  rw [lt32, getElem!_pos d' i hi2, getElem!_pos d' j hj2] at this
  simpa using this
 ·refine ⟨hd, some ⟨g, 0, none⟩, g, 0, c, by rw [hlen], fun i hi => ⟨rfl, ?_, fun j v hv => ?_⟩⟩
  ·show g < (Go.Sort.grow (Go.Sort.putRowK enc32 32 (Go.Sort.ahead w n) g 0 d') os).heap.size
   simp [Go.Sort.grow, Go.Sort.putRowK]
   have : (Go.Sort.ahead w n).heap.size = w.heap.size := rfl
   omega
  ·have hi2 : i < d'.size := by simpa using hi
   have hj : j < 32 := by
    rcases Nat.lt_or_ge j 32 with h1 | h1
    ·exact h1
    ·rw [List.getElem?_eq_none (by rw [bcells_length, hd _ (List.getElem_mem hi)]; exact h1)] at hv; cases hv
   have hh := Go.Sort.holdsK_putRowK (enc := enc32) (k := 32) (Go.Sort.ahead w n) g 0 (toH R h32) d' (fun t ht => hH t ht) (by rw [p1', toH_size]) (i * 32 + j) (by rw [Go.Sort.size_flatK]; omega)
   rw [flat_at hi2 hj] at hh
   show (Go.Sort.grow (Go.Sort.putRowK enc32 32 (Go.Sort.ahead w n) g 0 d') os).cell? _ = _
   rw [Go.Sort.cell?_grow _ _ _ (by show g < _; simp [Go.Sort.putRowK]; exact hg)]
   rw [show 0 + i * 32 + j = 0 + (i * 32 + j) by omega]
   rw [hh.1, getElem!_pos d' i hi2]
   simp only [List.getElem_map, Array.getElem_toList] at hv
   have hjl : j < (bcells d'[i].1).length := by rw [bcells_length, d'[i].2]; exact hj
   rw [enc32, getElem!_pos (bcells d'[i].1) j hjl]
   rw [List.getElem?_eq_getElem hjl] at hv
   exact hv
 ·refine ⟨rfl, rfl, rfl, by
   show w.heap.size ≤ (Go.Sort.grow (Go.Sort.putRowK enc32 32 (Go.Sort.ahead w n) g 0 d') os).heap.size
   simp [Go.Sort.grow, Go.Sort.putRowK, Go.Sort.ahead], fun k hk hne => ?_⟩
  show (Go.Sort.grow (Go.Sort.putRowK enc32 32 (Go.Sort.ahead w n) g 0 d') os).heap[k]? = _
  rw [Go.Sort.heap_grow_old _ _ (by simp [Go.Sort.putRowK]; exact hk)]
  simp [Go.Sort.putRowK, Go.Sort.putRow, Go.Sort.mapBlock, Go.Sort.ahead, Array.getElem?_modify, Ne.symm hne]

end Go.Proofs.Ytanfnafiofkihaa

namespace Go.Proofs.Ytanfnafiofkihaa
open Go.RowKit Go.Lib

theorem ranges_iter {w : World} {k : TypeId} {R : Value → Option (DataW Value × List MemPlace)} {b r n : Nat} {D : DataW Value} {left : Lit → Bool} {cnt : Nat} (h : w.ranges Try.prog k R b r n D left cnt) : ∃ m s seen c, w.heap[r]? = some (.mapIter m s seen c) := by
 obtain ⟨es, clock, since, seen, c0, _, _, _, _, hr, _⟩ := h
 exact ⟨_, _, _, _, hr⟩
theorem ranges_map {w : World} {k : TypeId} {R : Value → Option (DataW Value × List MemPlace)} {b r n : Nat} {D : DataW Value} {left : Lit → Bool} {cnt : Nat} (h : w.ranges Try.prog k R b r n D left cnt) : ∃ es c, w.heap[b]? = some (.map es c) := by
 obtain ⟨es, clock, _, _, _, hb, _⟩ := h
 exact ⟨_, _, hb⟩
theorem OwnH.isCells {w : World} {B : Nat} {v : Value} {L : List (List UInt8)} (h : OwnH w B v L) (k : Nat) (hk : v.ownBlock = some k) : ∃ cs, w.heap[k]? = some (.cells cs 26 (0, 0)) := by
 rcases h.2.2 with ⟨rfl, _⟩ | ⟨g, cap, cur, rfl, _, hh, _⟩
 ·simp [Value.ownBlock] at hk
 ·simp [Value.ownBlock] at hk
  subst hk
  exact ⟨cur, hh⟩

/-- What the looking about gives. -/
def AllPost (fs : List (List (List UInt8) × List (List UInt8))) (fr : List (List UInt8)) (w : World) (e : Ending) (w' : World) : Prop :=
 ∃ km K, e = .returned (.map (some km)) ∧ Known w' km K ∧ K.Nodup ∧ (∀ x, x ∈ K ↔ Bk.Cl fs fr x) ∧ w.heap.size ≤ km ∧ Kept w.heap.size w.heap.size w w'
theorem unit_ne (k : Nat) (hk : k < 1073741824) : (32 : Nat) * k ≤ 281474976710656 := by omega

set_option maxRecDepth 100000 in
set_option maxHeartbeats 3200000 in
theorem follows_of (pv : Option Addr) (fs : List (List (List UInt8) × List (List UInt8))) (fr : List (List UInt8)) (u : Value) (w : World) (hall : Calls Try.prog 48 #[.pointer pv, u] w (AllPost fs fr w)) (h32 : ∀ x, Bk.Cl fs fr x → x.length = 32) (hT : fr.length + (Bk.outs fs).length < 1000000) :
  Calls Try.prog 21 #[.pointer pv, u] w fun e w' => ∃ r M, e = .returned r ∧ Hs w' r M ∧ Bk.Is fs fr M ∧ Kept w.heap.size w.heap.size w w' := by
 have HALL := Lib.hid hall
 have HX32 := Lib.hid h32
 have HT := Lib.hid hT
 clear hall h32 hT
 go_enter Try.func21, Try.ntmps21
 go_wp2_with fail
 refine HALL.out.mono ?_
 rintro e w2 ⟨km, K, rfl, hkn, hnd, hcl, hlow, hk2⟩
 obtain ⟨f, ⟨D, hown, hD⟩, hfK⟩ := hkn
 have hKT : K.length < 1000000 := by
  have := Bk.nodup_le K (fr ++ Bk.outs fs) hnd (fun x hx => Bk.cl_mem ((hcl x).1 hx))
  rw [List.length_append] at this
  have := HT.out
  omega
 have hhas : ∀ l : List UInt8, Maps.has D (.string l) = true ↔ l ∈ K := fun l => by
  by_cases hl : l ∈ K
  ·exact ⟨fun _ => hl, fun _ => ((hD (.string l)).2 _ ((hfK l).1 hl)).1⟩
  ·rw [(hD (.string l)).1 ((hfK l).2 hl)]
   exact ⟨fun h => (Bool.false_ne_true h).elim, fun h => absurd h hl⟩
 have hlen := fun ty => hown.len Try.underlying95 ty
 have hsz := hown.size_le
 obtain ⟨c, hc⟩ : ∃ c, c = Maps.size D := ⟨_, rfl⟩
 rw [← hc] at hlen hsz
 obtain ⟨i0, z0, hi0, hz0, hzs0, hs0, hb0⟩ := hash_info
 obtain ⟨w3, hr3, ho3, hg3⟩ := run_make_own (P := Try.prog) w2 w.heap.size 23 26 i0 z0 32 Try.underlying23 hi0 hz0 hs0 .i64 .i64 c (by rw [hb0]; exact unit_ne c (by omega)) (by unfold maxLen; omega) hk2.size
 have hk3 := hk2.grown hg3 hk2.size (fun k h => by cases h)
 have hown3 := hown.kept hg3 (by simp)
 have hr3' : (Instr.makeSlice 23 (.int .i64 0) (.int .i64 (c : Int))).run Try.prog w2 = .ok (.slice (some ⟨w2.heap.size, 0, none⟩) 0 c) w3 := hr3
 have HHAS := Lib.hid hhas
 have HKT := Lib.hid hKT
 have HCL := Lib.hid hcl
 have HND := Lib.hid hnd
 have HK3 := Lib.hid hk3
 have HO3 : Hid (OwnH w3 w.heap.size (.slice (some ⟨w2.heap.size, 0, none⟩) 0 c) []) := Lib.hid ⟨(fun _ h => nomatch h), ho3⟩
 have HI0 := Lib.hid hi0
 have HZ0 := Lib.hid hz0
 have HS0 := Lib.hid hs0
 have HB0 := Lib.hid hb0
 have HLOW := Lib.hid hlow
 obtain ⟨g0, hg0⟩ : ∃ g0, g0 = w2.heap.size := ⟨_, rfl⟩
 rw [← hg0] at hr3' HO3
 clear hhas hKT hcl hnd hk3 ho3 hi0 hz0 hs0 hb0 hzs0 hlow hD hfK hc hr3 hg3 hk2 hown hg0
 have hzlen : (0 : Int) ≤ (c : Int) := by omega
 go_wp2_with (first
  | (at_range; refine wpList_range_own _ rfl _ 95 rfl 26 116 hash_keyed Try.underlying95 anyR km K.length D rfl hown3 ?_; intro w0 hrg0 hg0 hs0)
  | go_in)
 go_frame
 have HRG0 := Lib.hid hrg0
 have HK0 := Lib.hid (HK3.out.grown hg0 HK3.out.size (fun k h => by cases h))
 have HO0 := Lib.hid (HO3.out.grown hg0 (by simp [Value.ownBlock]))
 obtain ⟨r, hr⟩ : ∃ r, r = w3.heap.size := ⟨_, rfl⟩
 have HRR : Hid (w.heap.size ≤ r) := Lib.hid (by rw [hr]; exact HK3.out.size)
 rw [← hr] at HRG0 ⊢
 clear hrg0 hg0 hs0 hr hown3 hr3' hlen
 go_loopw [6] (fun s6 wr => ∃ (R : List (List UInt8)) (left : Lit → Bool) (cnt : Nat), Hid (wr.ranges Try.prog 26 anyR km r K.length D left cnt) ∧ Hid (OwnH wr w.heap.size s6 R) ∧ Hid (R = [] → ∃ g c, s6 = .slice (some ⟨g, 0, none⟩) 0 c) ∧ Hid (R.Nodup ∧ (∀ x ∈ R, x ∈ K) ∧ ∀ l : List UInt8, left (.string l) = true ↔ l ∈ K ∧ l ∉ R) ∧ Hid (Kept w.heap.size w.heap.size w wr)) (fun _ wr => wr.rangeLeft km r)
 case atStart => exact ⟨[], _, _, HRG0, HO0, Lib.hid (fun _ => ⟨_, _, rfl⟩), Lib.hid ⟨by simp, by simp, fun l => by rw [HHAS.out]; simp⟩, HK0⟩
 case round =>
  obtain ⟨R, left, cnt, hrg, hO, hE, hR, hK⟩ := hrel
  have HRGO := hrg.out
  go_wp2_with (first
   | (at_next; go_loud (refine wpList_next_ranges _ rfl _ rfl 26 hash_keyed anyR (fun x : H32 => Value.agg (bcells x.1).toArray) (fun v : Value => v) (fun key kl h => by obtain ⟨l, hl, rfl, _⟩ := hash_of_key h; exact ⟨⟨l, hl⟩, rfl⟩) (fun v y _ => ⟨v, rfl⟩) km r K.length D left cnt rfl HRGO ?_ ?_))
   | go_in)
  ·intro _ hl0
   have hall : ∀ l ∈ K, l ∈ R := fun l hl => by
    have h1 := hl0 (.string l)
    rcases Classical.em (l ∈ R) with h2 | h2
    ·exact h2
    ·have := (hR.out.2.2 l).2 ⟨hl, h2⟩
     rw [h1] at this
     cases this
   have hRK : R.length < 1000000 := by
    have h1 := Bk.nodup_le R K hR.out.1 hR.out.2.1
    have := HKT.out
    omega
   obtain ⟨g, c6, hs6⟩ : ∃ g c, u6 = .slice (some ⟨g, 0, none⟩) R.length c := by
    rcases hO.out.2.2 with ⟨_, h0⟩ | ⟨g, cap, cur, hv, _⟩
    ·obtain rfl := List.length_eq_zero_iff.1 h0
     exact hE.out rfl
    ·exact ⟨g, cap, hv⟩
   have hgB : w.heap.size ≤ g := by
    have := (hO.out.low g (by rw [hs6]; rfl)).1
    exact this
   have hO2 := hO.out
   rw [hs6] at hO2
   have hsort := sort_calls R w.heap.size g c6 wr hO2 (by omega)
   have HSORT := Lib.hid hsort
   have HALL2 := Lib.hid hall
   have HGB := Lib.hid hgB
   subst hs6
   clear hsort hall hO2 hl0 HRGO hgB
   go_wp2_with fail
   refine HSORT.out.mono ?_
   rintro e w7 ⟨rfl, R', hp, hpw, hhs, hk7⟩
   have HHS := Lib.hid hhs
   have HKF : Hid (Kept w.heap.size w.heap.size w w7) := Lib.hid (hK.out.trans (hk7.mono hK.out.size (fun k hk _ => by have := HGB.out; omega)))
   have HIS : Hid (Bk.Is fs fr R') := Lib.hid (by
    refine ⟨?_, fun x => ?_⟩
    ·have hnd : R'.Nodup := hp.nodup_iff.2 hR.out.1
     refine (List.Pairwise.imp₂ (fun a b h1 h2 => ?_) hpw hnd)
     exact Bk.less_total h1 (Ne.symm h2)
    ·rw [hp.mem_iff, ← HCL.out]
     exact ⟨hR.out.2.1 x, HALL2.out x⟩)
   clear hhs hk7 hp hpw
   go_wp2
   go_ret
   exact ⟨_, R', rfl, HHS.out, HIS.out, HKF.out⟩
  ·intro l hl32 c kl y1 y2 w1 cnt1 hkey' hlx hv hat hrg1 hlt hg1 hs1 hen'
   have hkl : kl = .string l := by
    rw [keyOf_hash l hl32] at hkey'
    exact (Option.some.inj hkey').symm
   subst hkl
   have hlK := (hR.out.2.2 l).1 hlx
   have hnr : u6.ownBlock = none ∨ u6.ownBlock ≠ some r := by
    cases ho : u6.ownBlock with
    | none => exact .inl rfl
    | some k => exact .inr (fun e => by
      cases e
      obtain ⟨cs, h1⟩ := hO.out.isCells r ho
      obtain ⟨_, _, _, _, h2⟩ := ranges_iter hrg.out
      rw [h1] at h2
      cases h2)
   have hO1 := hO.out.grown hg1 hnr
   have hK1 := hK.out.grown hg1 hK.out.size (fun k h => by cases h; exact HRR.out)
   obtain ⟨bl, hbl⟩ : ∃ bl, bl = bcells l := ⟨_, rfl⟩
   have hbl32 : bl.length = 32 := by rw [hbl, bcells_length, hl32]
   have hst := store_new (P := Try.prog) w1 26 zeros32 bl.toArray (by rw [zeros32_size, List.size_toArray, hbl32]) (by rw [hbl]; exact bcells_all l)
   have hA1 := heap_new w1 (.cells bl.toArray 26)
   have hrg2 := (hrg1.alloc (.cells bl.toArray 26)).alloc (.cells bl.toArray 26)
   have s2 : (w1.alloc (.cells bl.toArray 26)).heap.size = w1.heap.size + 1 := by simp
   have hRK : R.length < 1000000 := by
    have h1 := Bk.nodup_le R K hR.out.1 hR.out.2.1
    have := HKT.out
    omega
   have hK2 := (hK1.alloc hK1.size (.cells bl.toArray 26)).alloc (by rw [s2]; exact Nat.le_succ_of_le hK1.size) (.cells bl.toArray 26)
   have hO2 := (hO1.alloc (.cells bl.toArray 26)).alloc (.cells bl.toArray 26)
   obtain ⟨v5, w5, hr5, ho5, hg5⟩ := append_hash ((w1.alloc (.cells bl.toArray 26)).alloc (.cells bl.toArray 26)) w.heap.size u6 R hO2 hK2.size (w1.heap.size + 1) 1 l hl32 (fun j v hv => by
    rw [Nat.zero_add]
    have := heap_new (w1.alloc (.cells bl.toArray 26)) (.cells bl.toArray 26)
    rw [s2] at this
    exact cells_get this (by rw [hbl]; exact hv)) (by omega)
   have hk5 : ∀ k, u6.ownBlock = some k → w.heap.size ≤ k := fun k h => (hO2.low k h).1
   have hK5 := hK2.grown hg5 hK2.size hk5
   have hrg5 := hrg2.kept hg5 (fun e => by
    obtain ⟨cs, h1⟩ := hO2.isCells km e.symm
    obtain ⟨_, _, h2⟩ := ranges_map hrg2
    rw [h1] at h2
    cases h2) (fun e => by
    obtain ⟨cs, h1⟩ := hO2.isCells r e.symm
    obtain ⟨_, _, _, _, h2⟩ := ranges_iter hrg2
    rw [h1] at h2
    cases h2)
   have hR5 : (R ++ [l]).Nodup ∧ (∀ x ∈ R ++ [l], x ∈ K) ∧ ∀ l' : List UInt8, (left (.string l') && !(Lit.string l').sameKey (.string l)) = true ↔ l' ∈ K ∧ l' ∉ R ++ [l] := by
    obtain ⟨a1, a2, a3⟩ := hR.out
    refine ⟨List.nodup_append.2 ⟨a1, by simp, fun a ha b hb e => ?_⟩, fun x hx => ?_, fun l' => ?_⟩
    ·rw [List.mem_singleton] at hb
     exact hlK.2 (by rw [← hb, ← e]; exact ha)
    ·rcases List.mem_append.1 hx with h | h
     ·exact a2 x h
     ·rw [List.mem_singleton.1 h]
      exact hlK.1
    ·have hsk : (Lit.string l').sameKey (.string l) = (l' == l) := by simp [Lit.sameKey]
     rw [hsk, Bool.and_eq_true, a3, List.mem_append, List.mem_singleton, Bool.not_eq_true', beq_eq_false_iff_ne]
     constructor
     ·rintro ⟨⟨h1, h2⟩, h3⟩
      exact ⟨h1, fun h => h.elim h2 h3⟩
     ·rintro ⟨h1, h2⟩
      exact ⟨⟨h1, fun h => h2 (.inl h)⟩, fun h => h2 (.inr h)⟩
   have hmeas : w5.rangeLeft km r < wr.rangeLeft km r := by rw [hrg5.left_eq, hrg.out.left_eq]; exact hlt
   have hia : (Try.prog.info? 26).map (·.size) = some bl.toArray.size := by rw [List.size_toArray, hbl32]; kernel_rfl
   have hcs0 : bl.toArray.size = i0.size := by rw [List.size_toArray, hbl32, HS0.out]
   rw [← hbl] at hen'
   have HST := Lib.hid hst
   have HA1 := Lib.hid hA1
   have HR5 := Lib.hid hr5
   have HO5 := Lib.hid ho5
   have HK5 := Lib.hid hK5
   have HRG5 := Lib.hid hrg5
   have HRR5 := Lib.hid hR5
   have HME := Lib.hid hmeas
   have HIA := Lib.hid hia
   have HCS0 := Lib.hid hcs0
   clear hst hA1 hrg2 hRK hK2 hO2 hr5 ho5 hg5 hk5 hK5 hrg5 hR5 hmeas hia hcs0 hbl hkey' hnr hO1 hK1 hv hat hrg1 hlt hg1 hs1 hlx hlK HRGO
   go_wp2_with fail
   rw [zeros32_eq, HST.out]
   go_wp2_with (first
    | (with_reducible refine wpList_load_row rfl 26 _ rfl w1.heap.size rfl 26 bl.toArray (0, 0) _ HA1.out Try.underlying26 rfl HIA.out ?_)
    | (with_reducible refine wpList_build_one rfl _ 23 26 rfl i0 z0 Try.underlying23 HI0.out HZ0.out bl.toArray rfl HCS0.out (by rw [HS0.out]; decide) (by rw [HS0.out]; decide) ?_)
    | (rw [s2]; with_reducible refine wpList_append_known rfl _ _ 23 23 23 rfl rfl u6 (.slice (some ⟨w1.heap.size + 1, 0, none⟩) 1 1) rfl rfl HR5.out ?_)
    | (with_reducible refine wpList_append_known rfl _ _ 23 23 23 rfl rfl u6 (.slice (some ⟨w1.heap.size + 1, 0, none⟩) 1 1) rfl rfl HR5.out ?_))
   exact ⟨⟨R ++ [l], _, _, HRG5, HO5, Lib.hid (fun h => by simp at h), HRR5, HK5⟩, HME.out⟩

end Go.Proofs.Ytanfnafiofkihaa

namespace Go.Proofs.Ytanfnafiofkihaa
open Go.RowKit Go.Lib

theorem cl32 {fs : List (List (List UInt8) × List (List UInt8))} {fr : List (List UInt8)} (h1 : ∀ x ∈ fr, x.length = 32) (h2 : ∀ f ∈ fs, ∀ x ∈ f.2, x.length = 32) : ∀ x, Bk.Cl fs fr x → x.length = 32 := fun x h => by
 cases h with
 | base _ h => exact h1 x h
 | fact f o hf _ ho => exact h2 f hf x ho
theorem Bok.outs32 {w : World} {base bb b : Nat} {fs : List (List (List UInt8) × List (List UInt8))} {nmf : Lit → Option Value} {S : BokS} (h : Bok w base bb fs b nmf S) : ∀ f ∈ fs, ∀ x ∈ f.2, x.length = 32 := fun f hf => by
 obtain ⟨i, hi, rfl⟩ := List.getElem_of_mem hf
 obtain ⟨_, _, _, _, _, hlk⟩ := h.looks
 obtain ⟨_, _, _, _, _, _, hb, _⟩ := hlk.lies i hi
 exact hb.1
theorem follows_book (base bb b : Nat) (fs : List (List (List UInt8) × List (List UInt8))) (nmf : Lit → Option Value) (S : BokS) (fr : List (List UInt8)) (u : Value) (w : World) (hB : Bok w base bb fs b nmf S) (hR : Hs w u fr) (hT : fr.length + (Bk.outs fs).length < 1000000) (hb : b < 1000000) (hfs : fs.length < 1000000) (hsz : ∀ f ∈ fs, f.1.length < 1000000 ∧ f.2.length < 1000000) :
  Calls Try.prog 21 #[.pointer (some ⟨bb, 0, none⟩), u] w fun e w' => ∃ r M, e = .returned r ∧ Hs w' r M ∧ Bk.Is fs fr M ∧ Kept w.heap.size w.heap.size w w' :=
 follows_of _ fs fr u w (all_calls base bb b fs nmf S fr u w hB hR hT hb hfs hsz) (cl32 hR.1 hB.outs32) hT
end Go.Proofs.Ytanfnafiofkihaa
