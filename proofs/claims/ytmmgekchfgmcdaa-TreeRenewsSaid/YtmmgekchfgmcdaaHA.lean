/-
  TreeMore; TreePart; TreeRenew; TreeNone: several texts in one.
-/
import Derived.Test.YtmmgekchfgmcdaaTreeRemove
import Derived.Test.YtmmgekchfgmcdaaGY

namespace Go.Proofs.Ytmmgekchfgmcdaa
open Go.RowKit Go.Lib

section
variable {B B' : Nat → Prop} {w w1 : World} {lv pv : Value} {L : List Lf} {P : List Pr} {SL : List Value}
theorem Frm.cell (h : Frm B w w1) {p : Addr} (hp : p.block < w.heap.size) (hb : B p.block) : w1.cell? p = w.cell? p := World.cell?_of_block (w := w) (h.block p.block hp hb)
theorem Frm.range (h : Frm B w w1) {g o : Nat} {cs : List Value} (hr : w.rangeAt g o cs) (hg : g < w.heap.size) (hb : B g) : w1.rangeAt g o cs := fun j v hv => (h.cell (p := ⟨g, o + j, none⟩) hg hb).trans (hr j v hv)
theorem Kept.setB {base b : Nat} {w0 w w2 : World} (h : Kept base b w0 w) (g : w.grownBy w2 (some b)) (hb : base ≤ w.heap.size) : Kept base b w0 w2 :=
  h.trans ⟨g.os, g.tape, g.output, g.size, fun k hk hne => g.block k (by omega) (fun e => hne (Option.some.inj e))⟩
theorem Kept.grewB {b : Nat} {w w2 : World} (h : Kept w.heap.size b w w2) : w.grownBy w2 (some b) :=
  ⟨h.os, h.tape, h.output, h.size, fun k hk hne => h.block k hk (fun e => hne (by rw [e]))⟩
theorem Kept.overB {b : Nat} {w0 w w2 : World} (h : Kept w0.heap.size w0.heap.size w0 w) (k : Kept w.heap.size b w w2) (hb : w0.heap.size ≤ b) : Kept w0.heap.size w0.heap.size w0 w2 :=
  h.trans ⟨k.os, k.tape, k.output, k.size, fun i hi _ => k.block i (Nat.lt_of_lt_of_le hi h.size) (by omega)⟩
theorem Mine.empty (B : Nat → Prop) (w : World) (hb : ∀ k, B k → k < w.heap.size) : Mine B w (.slice none 0 0) (.slice none 0 0) [] [] [] :=
  { lok := fun _ h => nomatch h
    pok := fun _ h => nomatch h
    lo := OwnC.nil _ _ _ _
    len := rfl
    po := OwnC.nil _ _ _ _
    so := fun _ _ _ h => by simp at h
    dlp := .inl rfl
    dls := fun _ h => nomatch h
    dps := fun _ h => nomatch h
    dss := fun _ _ _ _ _ h => by simp at h
    ol := fun _ h => nomatch h
    op := fun _ h => nomatch h
    os := fun _ h => nomatch h
    bnd := hb }
/-- A parent put behind. -/
theorem Mine.moreP (h : Mine B w lv pv L P SL) (b c : Nat) (p : Pr) (hp : p.Ok) (s : Value) (hs : Ints w 0 s p.loose) (hsb : ∀ g, s.ownBlock = some g → ¬ B g) (h1 : Dif lv.ownBlock s.ownBlock) (h2 : Dif pv.ownBlock s.ownBlock) (h3 : ∀ (j : Nat) (t : Value), SL[j]? = some t → Dif s.ownBlock t.ownBlock) (hb : w.rangeAt b 0 (p.cells s)) (hn : P.length < 1000000) :
    ∃ v' w', (Builtin.append_ #[25, 25] 25 #[pv, .slice (some ⟨b, 0, none⟩) 1 c]).run Try.prog w = .ok v' w' ∧ Mine B w' lv v' L (P ++ [p]) (SL ++ [s]) ∧ w.grownBy w' pv.ownBlock := by
  obtain ⟨sad, sn, sc, rfl⟩ := one_slice hs
  obtain ⟨v', w', e1, e2, e3, e4⟩ := append_parent1 w pv _ h.po b c _ (Pr.cells_length hp _) (p.cells_one sad sn sc) hb (by rw [zip_len h]; omega)
  refine ⟨v', w', e1, ?_, e3⟩
  have hlt : ∀ (j : Nat) (t : Value), SL[j]? = some t → ∀ g, t.ownBlock = some g → g < w.heap.size := fun j t ht g e => by
    have hj : j < P.length := by rw [← h.len]; exact (List.getElem?_eq_some_iff.1 ht).1
    exact (World.ownsRow.lt (h.so j _ t (List.getElem?_eq_getElem hj) ht) g e).2
  exact { h with
    pok := fun x hx => (List.mem_append.1 hx).elim (h.pok x) (fun e => by rw [List.mem_singleton.1 e]; exact hp)
    lo := h.lo.grown e3 h.dlp
    len := by rw [List.length_append, List.length_append, h.len]; rfl
    po := by rw [List.zipWith_append h.len.symm]; exact e2
    so := fun j q t hq ht => by
      rw [List.getElem?_append] at hq ht
      by_cases hj : j < P.length
      · rw [if_pos hj] at hq
        rw [if_pos (by rw [h.len]; exact hj)] at ht
        exact World.ownsRow.kept (h.so j q t hq ht) e3 (h.dps t (List.mem_of_getElem? ht)).symm
      · rw [if_neg hj] at hq
        rw [if_neg (by rw [h.len]; exact hj)] at ht
        have hp2 := List.mem_singleton.1 (List.mem_of_getElem? hq)
        have hs2 := List.mem_singleton.1 (List.mem_of_getElem? ht)
        subst hp2; subst hs2
        exact World.ownsRow.kept hs e3 h2.symm
    dlp := by
      rcases e4 with e | e
      · rw [e]; exact h.dlp
      · rw [e]
        exact .inr fun e2 => by have := (h.lo.2.lt _ e2).2; omega
    dls := fun t ht => (List.mem_append.1 ht).elim (h.dls t) (fun e => by rw [List.mem_singleton.1 e]; exact h1)
    dps := fun t ht => by
      rcases List.mem_append.1 ht with ht | ht
      · rcases e4 with e | e
        · rw [e]; exact h.dps t ht
        · obtain ⟨i, hi⟩ := List.getElem?_of_mem ht
          exact .inr fun e2 => by have := hlt i t hi _ (e2.symm.trans e); omega
      · rw [List.mem_singleton.1 ht]
        rcases e4 with e | e
        · rw [e]; exact h2
        · exact .inr fun e2 => by have := (World.ownsRow.lt hs _ (e2.symm.trans e)).2; omega
    dss := fun i j x y hij hx hy => by
      rw [List.getElem?_append] at hx hy
      by_cases hi : i < SL.length
      · rw [if_pos hi] at hx
        by_cases hj : j < SL.length
        · rw [if_pos hj] at hy
          exact h.dss i j x y hij hx hy
        · rw [if_neg hj] at hy
          rw [List.mem_singleton.1 (List.mem_of_getElem? hy)]
          exact (h3 i x hx).symm
      · rw [if_neg hi] at hx
        rw [List.mem_singleton.1 (List.mem_of_getElem? hx)]
        by_cases hj : j < SL.length
        · rw [if_pos hj] at hy
          exact h3 j y hy
        · rw [if_neg hj] at hy
          have h8 := (List.getElem?_eq_some_iff.1 hx).1
          have h9 := (List.getElem?_eq_some_iff.1 hy).1
          simp only [List.length_singleton] at h8 h9
          omega
    op := fun g e => by
      rcases e4 with e2 | e2
      · exact h.op g (by rw [← e2]; exact e)
      · rw [e2] at e; cases e
        exact fun b => Nat.lt_irrefl _ (h.bnd _ b)
    os := fun t ht => (List.mem_append.1 ht).elim (h.os t) (fun e => by rw [List.mem_singleton.1 e]; exact hsb)
    bnd := fun k hk => Nat.lt_of_lt_of_le (h.bnd k hk) e3.size }
end
theorem append_intR (w : World) (base : Nat) (v : Value) (L : List Int) (x : Int) (h : Ints w base v L) (b c : Nat) (hb : w.cell? ⟨b, 0, none⟩ = some (.int .i64 x)) (hn : L.length < 100000) (hbase : base ≤ w.heap.size) :
    ∃ v' w', (Builtin.append_ #[29, 29] 29 #[v, .slice (some ⟨b, 0, none⟩) 1 c]).run Try.prog w = .ok v' w' ∧ Ints w' base v' (L ++ [x]) ∧ w.grownBy w' v.ownBlock := by
  obtain ⟨i0, hi, hz0, hz1, hz2⟩ := info_parts intInfo
  obtain ⟨v', w', e1, e2, e3, _⟩ := run_append_own_at (P := Try.prog) (w := w) base 29 29 3 i0 (.int .i64 0) 1 8 Try.underlying29 hi hz0 hz1 hz2 rfl (by decide) v L.length (L.map (Value.int .i64)) h ⟨b, 0, none⟩ 1 c [.int .i64 x]
    rfl (fun j u hu => by
      rw [Addr.add_lit]
      match j, hu with
      | 0, hu => cases hu; exact hb) (fun u hu => by rw [List.mem_singleton.1 hu]; rfl) (by unfold maxLen; omega) (by omega) hbase
  refine ⟨v', w', e1, ?_, e3⟩
  unfold Ints
  rw [List.length_append, List.map_append]
  exact e2
theorem load_ints {w : World} {g o : Nat} {a : Option Addr} {n c : Nat} (h : w.cell? ⟨g, o, none⟩ = some (.slice a n c)) : (loadVar 29 ⟨g, o, none⟩).run Try.prog w = .ok (.slice a n c) w := by
  go_simp
theorem build_int1 (w : World) (x : Int) : (Instr.buildSlice 29 1 #[(0, .int .i64 x)]).run Try.prog w = .ok (.slice (some ⟨w.heap.size, 0, none⟩) 1 1) (w.alloc (.cells #[.int .i64 x] 3)) := by go_simp
theorem build_leaf1 (w : World) (l : Lf) (h : l.Ok) : (Instr.buildSlice 24 1 #[(0, .agg l.cells.toArray)]).run Try.prog w = .ok (.slice (some ⟨w.heap.size, 0, none⟩) 1 1) (w.alloc (.cells l.cells.toArray 36)) := by
  obtain ⟨i, z, hi, hz, hs⟩ := leafFullZ
  exact run_build_one w _ _ i z Try.underlying24 hi hz _ (by rw [Lf.size h, hs]) (by omega) (by omega)
theorem build_parent1 (w : World) (p : Pr) (h : p.Ok) (s : Value) : (Instr.buildSlice 25 1 #[(0, .agg (p.cells s).toArray)]).run Try.prog w = .ok (.slice (some ⟨w.heap.size, 0, none⟩) 1 1) (w.alloc (.cells (p.cells s).toArray 70)) := by
  obtain ⟨i, z, hi, hz, hs⟩ := parentFullZ
  exact run_build_one w _ _ i z Try.underlying25 hi hz _ (by rw [Pr.size h, hs]) (by omega) (by omega)
set_option maxRecDepth 100000 in
theorem build_tree0 (w : World) : (Instr.build 27 #[]).run Try.prog w = .ok (.agg #[.slice none 0 0, .slice none 0 0]) w := by kernel_rfl
section
variable {P : Program} {ops : Array Oper} {rest : List Oper} {o : Oper} {a : Act} {w w' : World} {K : Act → World → Prop} {Q : Exit → Act → World → Prop}
theorem wp_build_known (t : TypeId) (x : Operand) (ho : o.op = .buildSlice t 1 #[(0, x)]) (d : Option Tmp) (hd : o.dst = d) (u v : Value) (hx : a.eval x = u) (hr : (Instr.buildSlice t 1 #[(0, u)]).run P w = .ok v w') (h : K (a.put d v) w') : o.wp P a w K Q := by
  subst hd
  unfold Oper.wp execOp
  simp only [ho, List.map_toArray, List.map_cons, List.map_nil, hx, Sem.run_bind, hr, Result.andThen_ok, Sem.run_pure]
  exact h
theorem wp_append_dst (s x : Operand) (t t' ty : TypeId) (hty : o.type = ty) (ho : o.op = .call { callee := .builtin .append, args := #[s, x], argTypes := #[t, t'] }) (d : Option Tmp) (hd : o.dst = d) (v y v' : Value) (hs : a.eval s = v) (hx : a.eval x = y) (hr : (Builtin.append_ #[t, t'] ty #[v, y]).run P w = .ok v' w') (hk : K (a.put d v') w') : o.wp P a w K Q := by
  subst hty
  subst hd
  unfold Oper.wp execOp
  simp only [ho, resolve, invoke, builtin, Sem.run_bind, Sem.run_pure, Result.andThen_ok, List.map_toArray, List.map_cons, List.map_nil, hs, hx, hr]
  exact hk
/-- A slice built of one value, of which the run is known, in a plain region. -/
theorem wpL_build_known (hw : Region.wanted o (yielded ops a.tmps) = true) (t : TypeId) (x : Operand) (ho : o.op = .buildSlice t 1 #[(0, x)]) (u v : Value) (hx : a.eval x = u) (hr : (Instr.buildSlice t 1 #[(0, u)]).run P w = .ok v w') (hk : wpList P ops Q rest (a.put o.dst v) w') : wpList P ops Q (o :: rest) a w := by
  refine wpList_step fun K hK => ?_
  rw [if_pos hw]
  exact wp_build_known t x ho _ rfl u v hx hr (hK _ _ hk)
end

end Go.Proofs.Ytmmgekchfgmcdaa

namespace Go.Proofs.Ytmmgekchfgmcdaa
open Go.RowKit Go.Lib

theorem putList_part (n : Nat) (R : List (List Value)) (hR : ∀ r ∈ R, r.length = n) (i : Nat) (hi : i < R.length) (o : Nat) (vs : List Value) (ho : o + vs.length ≤ n) : putList R.flatten (i * n + o) vs = (R.set i (putList R[i] o vs)).flatten := by
  have hri : R[i].length = n := hR _ (List.getElem_mem hi)
  have hR2 : ∀ x ∈ R.set i (putList R[i] o vs), x.length = n := fun x hx => by
    rcases List.mem_or_eq_of_mem_set hx with h | h
    · exact hR x h
    · rw [h, putList_length]; exact hri
  have hfl := flat_len n R hR
  have hin : (i + 1) * n ≤ R.length * n := Nat.mul_le_mul_right n hi
  rw [Nat.succ_mul] at hin
  apply List.ext_getElem?
  intro j
  rw [putList_at vs R.flatten (i * n + o) j (by rw [hfl]; omega)]
  by_cases hj : j < R.length * n
  · have hn : 0 < n := by
      rcases Nat.eq_zero_or_pos n with h | h
      · rw [h, Nat.mul_zero] at hj; exact absurd hj (Nat.not_lt_zero _)
      · exact h
    have hq : j / n < R.length := (Nat.div_lt_iff_lt_mul hn).2 hj
    have hm : j % n < n := Nat.mod_lt _ hn
    have hdm : j / n * n + j % n = j := by rw [Nat.mul_comm]; exact Nat.div_add_mod j n
    have e1 := flat_at n R hR (j / n) hq (j % n) hm
    have e2 := flat_at n _ hR2 (j / n) (by rw [List.length_set]; exact hq) (j % n) hm
    rw [hdm] at e1 e2
    rw [e2, List.getElem_set]
    by_cases h : i = j / n
    · have h3 : i * n + j % n = j := by rw [h]; exact hdm
      rw [if_pos h, putList_at vs R[i] o (j % n) (by rw [hri]; exact ho)]
      by_cases h4 : o ≤ j % n ∧ j % n < o + vs.length
      · rw [if_pos (by omega), if_pos h4, show j - (i * n + o) = j % n - o by omega]
      · rw [if_neg (by omega), if_neg h4, e1]
        simp only [h]
    · rw [if_neg h, if_neg, e1]
      intro h4
      apply h
      have h5 : j < (i + 1) * n := by rw [Nat.succ_mul]; omega
      have h6 := (Nat.div_lt_iff_lt_mul hn).2 h5
      have h7 := (Nat.le_div_iff_mul_le hn).2 (show i * n ≤ j by omega)
      omega
  · rw [if_neg (by omega), List.getElem?_eq_none (by rw [hfl]; omega), List.getElem?_eq_none (by rw [flat_len n _ hR2, List.length_set]; omega)]
theorem putList_mid : ∀ (A B C vs : List Value), vs.length = B.length → putList (A ++ (B ++ C)) A.length vs = A ++ (vs ++ C) := fun A B C vs h => by
  apply List.ext_getElem?
  intro j
  rw [putList_at _ _ _ _ (by simp only [List.length_append]; omega)]
  by_cases h1 : j < A.length
  · rw [if_neg (by omega), List.getElem?_append_left h1, List.getElem?_append_left h1]
  · by_cases h2 : j < A.length + vs.length
    · rw [if_pos ⟨by omega, h2⟩, List.getElem?_append_right (by omega), List.getElem?_append_left (by omega)]
    · rw [if_neg (by omega), List.getElem?_append_right (by omega), List.getElem?_append_right (by omega), List.getElem?_append_right (by omega), List.getElem?_append_right (by omega), h]
theorem Lf.put_pub {l : Lf} (h : l.Ok) (p : List UInt8) (hp : p.length = 32) : putList l.cells 1 (bcells p) = ({ l with pub := p } : Lf).cells := by
  have := putList_mid [.int .i64 l.name] (bcells l.pub) (bcells l.ver ++ bcells l.abv) (bcells p) (by rw [bcells_length, bcells_length, hp, h.1])
  exact this
theorem Lf.put_abv {l : Lf} (h : l.Ok) (p : List UInt8) (hp : p.length = 32) : putList l.cells 65 (bcells p) = ({ l with abv := p } : Lf).cells := by
  have := putList_mid (.int .i64 l.name :: (bcells l.pub ++ bcells l.ver)) (bcells l.abv) [] (bcells p) (by rw [bcells_length, bcells_length, hp, h.2.2])
  rw [List.length_cons, List.length_append, bcells_length, bcells_length, h.1, h.2.1, List.append_nil, List.append_nil] at this
  simpa [Lf.cells] using this
section
variable {base : Nat} {T : TypeId} {n g cap : Nat}
theorem OwnC.part {w : World} {R : List (List Value)} (h : OwnC w base T n (.slice (some ⟨g, 0, none⟩) R.length cap) R) (i : Nat) (hi : i < R.length) (o : Nat) (vs : List Value) (ho : o + vs.length ≤ n) (h1 : ∀ y ∈ vs, y.oneCell' = true) :
    OwnC (w.setCells g (i * n + o) vs) base T n (.slice (some ⟨g, 0, none⟩) R.length cap) (R.set i (putList R[i] o vs)) ∧ w.grownBy (w.setCells g (i * n + o) vs) (some g) ∧ w.there g (i * n + o) vs.length := by
  obtain ⟨a, b⟩ := owns_setCells vs (i * n + o) w R.flatten h.2
  rw [putList_part n R h.len i hi o vs ho] at a
  refine ⟨⟨fun x hx => ?_, by rw [List.length_set]; exact a⟩, b, fun j hj => ?_⟩
  · rcases List.mem_or_eq_of_mem_set hx with hx | hx
    · exact h.1 x hx
    · rw [hx, putList_length]
      refine ⟨h.len _ (List.getElem_mem hi), fun y hy => ?_⟩
      obtain ⟨j, hj, rfl⟩ := List.getElem_of_mem hy
      have hz := putList_at vs R[i] o j (by rw [h.len _ (List.getElem_mem hi)]; exact ho)
      rw [List.getElem?_eq_getElem hj] at hz
      split at hz
      · exact h1 _ (List.mem_of_getElem? hz.symm)
      · exact (h.1 _ (List.getElem_mem hi)).2 _ (List.mem_of_getElem? hz.symm)
  · have := OwnC.there h i hi (o + j) (by omega)
    rwa [← Nat.add_assoc] at this
end
section
variable {B : Nat → Prop} {w : World} {lv pv : Value} {L : List Lf} {P : List Pr} {SL : List Value}
/-- A part of a leaf put in the place of another. -/
theorem Mine.leafPart (h : Mine B w lv pv L P SL) (i : Nat) (hi : i < L.length) (l : Lf) (hl : l.Ok) (o : Nat) (vs : List Value) (ho : o + vs.length ≤ 97) (h1 : ∀ y ∈ vs, y.oneCell' = true) (he : putList L[i].cells o vs = l.cells) :
    ∃ g cap, lv = .slice (some ⟨g, 0, none⟩) L.length cap ∧ ¬ B g ∧ w.there g (i * 97 + o) vs.length ∧ Mine B (w.setCells g (i * 97 + o) vs) lv pv (L.set i l) P SL ∧ w.grownBy (w.setCells g (i * 97 + o) vs) (some g) := by
  obtain ⟨g, cap, rfl⟩ := own_shape h.lo (by rw [List.length_map]; omega)
  have hq : i < (L.map Lf.cells).length := by rw [List.length_map]; exact hi
  obtain ⟨h2, h3, h4⟩ := OwnC.part h.lo i hq o vs ho h1
  have hne : ∀ x : Value, Dif (some g) x.ownBlock → x.ownBlock = none ∨ x.ownBlock ≠ some g := fun x hx => .inr fun e => hx.elim (fun e2 => nomatch e2) (fun e2 => e2 e.symm)
  rw [List.getElem_map, he, List.length_map] at h2
  rw [List.length_map]
  refine ⟨g, cap, rfl, h.ol g rfl, h4, ?_, h3⟩
  exact { h with
    lok := fun x hx => (List.mem_or_eq_of_mem_set hx).elim (h.lok x) (fun e => e ▸ hl)
    lo := by rw [List.map_set]; exact h2
    po := h.po.grown h3 (hne pv h.dlp)
    so := fun j p s hp hs => World.ownsRow.kept (h.so j p s hp hs) h3 (hne s (h.dls s (List.mem_of_getElem? hs)))
    bnd := fun k hk => Nat.lt_of_lt_of_le (h.bnd k hk) h3.size }
end
theorem build_zh2 (w : World) : (Instr.build 34 #[]).run Try.prog w = .ok (.agg (bcells Tt.z32).toArray) w := build_zh w

end Go.Proofs.Ytmmgekchfgmcdaa

namespace Go.Proofs.Ytmmgekchfgmcdaa
open Go.RowKit Go.Lib

namespace Tt
def renewed (l : Lf) (pub : List UInt8) : Lf := { l with pub := pub, abv := z32 }
end Tt
theorem bytesAll (l : List UInt8) : (bcells l).toArray.all (·.oneCell') = true := all_oneCell_toArray (bcells_one l)
set_option maxRecDepth 100000 in
set_option maxHeartbeats 6400000 in
theorem renew_ok (lv pv : Value) (L : List Lf) (P : List Pr) (k : Nat) (pub : List UInt8) (hpub : pub.length = 32) (w : World) (hL : Lvs w lv L) (hP : Pts w pv P) (hn : L.length ≤ 1000) (hp : P.length ≤ 1000) (hpl : ∀ p ∈ P, p.loose.length ≤ 1000) (hk : k < L.length) (hpe : P.length = L.length - 1) (hlk : Tt.lacks L P (k : Int) = 0) :
    Calls Try.prog 20 #[.agg #[lv, pv], .int .i64 (k : Int), .agg (bcells pub).toArray] w fun e w' => ∃ lv' pv', e = .returned (.tuple #[.agg #[lv', pv'], .int .i64 0]) ∧ Kept w.heap.size w.heap.size w w' ∧ ∃ SL, Mine (fun k => k < w.heap.size) w' lv' pv' (L.set k (Tt.renewed L[k] pub)) (Tt.blanks (Bo.Direct L.length (k : Int)) P) SL := by
  have HLK := Lib.hid (fun (x : World) (kk : Kept w.heap.size w.heap.size w x) => lacks_calls lv pv L P (k : Int) x (hL.kept kk) (hP.kept kk) hn hp hpl)
  rw [hlk] at HLK
  have HCP := Lib.hid (fun (x : World) (kk : Kept w.heap.size w.heap.size w x) => copied_calls lv pv L P x (hL.kept kk) (hP.kept kk) hn hp hpl)
  have hlok : L[k].Ok := by
    obtain ⟨_, _, _, _, _, h1, _⟩ := hL
    exact (h1 k hk).2.2.1
  obtain ⟨lad, lc, rfl⟩ := hL.shape
  obtain ⟨pad, pc, rfl⟩ := hP.shape
  obtain ⟨ln, hln⟩ : ∃ ln, ln = L.length := ⟨_, rfl⟩
  obtain ⟨pn, hpn⟩ : ∃ pn, pn = P.length := ⟨_, rfl⟩
  obtain ⟨l, hl⟩ : ∃ l, l = L[k] := ⟨_, rfl⟩
  have hkl : (k : Int) < (ln : Int) := by omega
  have hk0 : ¬ (k : Int) < 0 := by omega
  rw [← hln, ← hpn] at HLK HCP ⊢
  rw [← hl] at hlok ⊢
  have hln9 : (ln : Int) ≤ 1000 := by omega
  have HLN := Lib.hid hln
  have HPN := Lib.hid hpn
  have HN := Lib.hid hn
  have HPE := Lib.hid hpe
  have HKL := Lib.hid hk
  have HL := Lib.hid (show ∀ h : k < L.length, l = L[k] from fun _ => hl)
  have HOK := Lib.hid hlok
  have HPB := Lib.hid hpub
  obtain ⟨D, hD⟩ : ∃ D, D = (bcells pub).toArray := ⟨_, rfl⟩
  have HDE := Lib.hid hD
  have hsz : D.size = 32 := by rw [hD, List.size_toArray, bcells_length, hpub]
  have HSZ := Lib.hid hsz
  have hinf : (Try.prog.info? 34).map (·.size) = some D.size := by rw [hD]; exact hashInfoT (by rw [bcells_length, hpub])
  have HINF := Lib.hid hinf
  have HALL := Lib.hid (show D.all (·.oneCell') = true by rw [hD]; exact bytesAll pub)
  rw [← hD]
  clear hL hP hn hp hpl hlk hln hpn hpe hk hl hlok hpub hD hsz hinf
  have k1 := (Kept.refl w.heap.size w.heap.size w).alloc (Nat.le_refl _) (.cells #[.slice lad ln lc, .slice pad pn pc] 27)
  have t1 := heap_new w (.cells #[.slice lad ln lc, .slice pad pn pc] 27)
  have s1 : (w.alloc (.cells #[.slice lad ln lc, .slice pad pn pc] 27)).heap.size = w.heap.size + 1 := by simp
  go_enter Try.func20, Try.ntmps20
  go_upto_region 1 with fail
  generalize w.alloc (.cells #[.slice lad ln lc, .slice pad pn pc] 27) = wa at k1 t1 s1 ⊢
  have k2 := (Kept.refl wa.heap.size wa.heap.size wa).alloc (Nat.le_refl _) (.cells D 34)
  have e2 := heap_new wa (.cells D 34)
  have s2 : (wa.alloc (.cells D 34)).heap.size = wa.heap.size + 1 := by simp
  have t2 := (k2.block _ (lt_of_block t1) (Nat.ne_of_lt (lt_of_block t1))).trans t1
  generalize wa.alloc (.cells D 34) = wb at k2 e2 s2 t2 ⊢
  have k3 := (Kept.refl wb.heap.size wb.heap.size wb).alloc (Nat.le_refl _) (.cells #[.slice none 0 0, .slice none 0 0] 27)
  have r3 := heap_new wb (.cells #[.slice none 0 0, .slice none 0 0] 27)
  have t3 := (k3.block _ (lt_of_block t2) (Nat.ne_of_lt (lt_of_block t2))).trans t2
  have e3 := (k3.block _ (lt_of_block e2) (Nat.ne_of_lt (lt_of_block e2))).trans e2
  generalize wb.alloc (.cells #[.slice none 0 0, .slice none 0 0] 27) = w1 at k3 r3 t3 e3 ⊢
  have K1 := Lib.hid ((k1.next1 k2).next1 k3)
  rw [s2, s1] at r3
  rw [s1] at e3
  (try rw [s2])
  (try rw [s1])
  obtain ⟨tb, htb⟩ : ∃ tb, tb = w.heap.size := ⟨_, rfl⟩
  obtain ⟨lb, hlb⟩ : ∃ lb, lb = w.heap.size + 1 := ⟨_, rfl⟩
  obtain ⟨rb, hrb⟩ : ∃ rb, rb = w.heap.size + 1 + 1 := ⟨_, rfl⟩
  rw [← hrb] at r3
  (try rw [← hrb])
  rw [← hlb] at e3
  (try rw [← hlb])
  rw [← htb] at t3
  (try rw [← htb])
  have HRB := Lib.hid (show ¬ rb < w.heap.size by omega)
  have T1 := Lib.hid t3
  have E1 := Lib.hid e3
  have R1 := Lib.hid r3
  clear k1 t1 s1 k2 e2 s2 t2 k3 r3 t3 e3 htb hlb hrb
  refine wp_region_lit ?_
  refine @wpList_load_known _ _ _ _ _ _ _ ?hw39002 27 (.tmp 3) rfl (tb) (0) rfl (.agg #[.slice lad ln lc, .slice pad pn pc]) (run_loadVar_row w1 tb 27 27 _ (0, 0) _ T1.out Try.underlying27 rfl treeInfo) ?_
  case hw39002 => kernel_rfl
  simp only [Act.put, List.setIfInBounds_toArray, List.set_cons_zero, List.set_cons_succ]
  refine @BigFrame.wpList_want _ _ _ _ _ _ _ ?hw39003 ?_
  case hw39003 => kernel_rfl
  intro K hK
  go_simp
  refine hK _ _ ?_
  clear hK K
  refine @BigFrame.wpList_want _ _ _ _ _ _ _ ?hw39001 ?_
  case hw39001 => kernel_rfl
  intro K hK
  go_simp
  go_at_call 53
  refine (HLK.out _ K1.out).mono ?_
  rintro e w2 ⟨rfl, k2⟩
  have K2 := Lib.hid (K1.out.next1 k2)
  have T2 := Lib.hid ((k2.block tb (lt_of_block T1.out) (Nat.ne_of_lt (lt_of_block T1.out))).trans T1.out)
  have E2 := Lib.hid ((k2.block lb (lt_of_block E1.out) (Nat.ne_of_lt (lt_of_block E1.out))).trans E1.out)
  have R2 := Lib.hid ((k2.block rb (lt_of_block R1.out) (Nat.ne_of_lt (lt_of_block R1.out))).trans R1.out)
  clear k2
  refine hK _ _ ?_
  clear hK K
  refine @BigFrame.wpList_want _ _ _ _ _ _ _ ?hw39004 ?_
  case hw39004 => kernel_rfl
  intro K hK
  go_simp
  refine hK _ _ ?_
  clear hK K
  go_upto_region 2 with fail
  refine wp_region_lit ?_
  refine @BigFrame.wpList_want _ _ _ _ _ _ _ ?hw39005 ?_
  case hw39005 => kernel_rfl
  intro K hK
  go_simp
  refine hK _ _ ?_
  clear hK K
  refine @BigFrame.wpList_want _ _ _ _ _ _ _ ?hw39006 ?_
  case hw39006 => kernel_rfl
  intro K hK
  go_simp
  refine hK _ _ ?_
  clear hK K
  go_upto_region 4 with fail
  refine wp_region_lit ?_
  refine @wpList_load_known _ _ _ _ _ _ _ ?hw39007 27 (.tmp 3) rfl (tb) (0) rfl (.agg #[.slice lad ln lc, .slice pad pn pc]) (run_loadVar_row w2 tb 27 27 _ (0, 0) _ T2.out Try.underlying27 rfl treeInfo) ?_
  case hw39007 => kernel_rfl
  simp only [Act.put, List.setIfInBounds_toArray, List.set_cons_zero, List.set_cons_succ]
  refine @BigFrame.wpList_want _ _ _ _ _ _ _ ?hw39008 ?_
  case hw39008 => kernel_rfl
  intro K hK
  go_simp
  go_at_call 47
  refine (HCP.out _ K2.out).mono ?_
  rintro e w6 ⟨lv6, pv6, rfl, k6, SL6, m6⟩
  obtain ⟨lad6, lc6, rfl⟩ := m6.lvs.shape
  obtain ⟨pad6, pc6, rfl⟩ := m6.pts.shape
  rw [← HLN.out, ← HPN.out] at m6 ⊢
  have HK56 := Lib.hid k6.size
  refine hK _ _ ?_
  clear hK K
  have K6 := Lib.hid (K2.out.next1 k6)
  have T6 := Lib.hid ((k6.block tb (lt_of_block T2.out) (Nat.ne_of_lt (lt_of_block T2.out))).trans T2.out)
  have E6 := Lib.hid ((k6.block lb (lt_of_block E2.out) (Nat.ne_of_lt (lt_of_block E2.out))).trans E2.out)
  have R6 := Lib.hid ((k6.block rb (lt_of_block R2.out) (Nat.ne_of_lt (lt_of_block R2.out))).trans R2.out)
  clear k6
  refine @wpL_alloc _ _ _ _ _ _ _ _ ?hw39009 27 rfl _ (alloc_tree _) ?_
  case hw39009 => kernel_rfl
  simp only [Act.put, List.setIfInBounds_toArray, List.set_cons_zero, List.set_cons_succ]
  refine wpList_store_row rfl 27 _ _ rfl (w6.heap.size) #[.slice lad6 ln lc6, .slice pad6 pn pc6] rfl rfl 27 #[.slice none 0 0, .slice none 0 0] (heap_new _ _) (treeInfo) (rfl) (tree_all _ _ _ _ _ _) ?_
  simp only [Act.put]
  rw [World.setRow_alloc_new]
  have m7 := m6.box (.cells #[.slice lad6 ln lc6, .slice pad6 pn pc6] 27)
  have hb7 := heap_new w6 (.cells #[.slice lad6 ln lc6, .slice pad6 pn pc6] 27)
  have k7 := (Kept.refl w6.heap.size w6.heap.size w6).alloc (Nat.le_refl _) (.cells #[.slice lad6 ln lc6, .slice pad6 pn pc6] 27)
  obtain ⟨mb, hmb⟩ : ∃ mb, mb = w6.heap.size := ⟨_, rfl⟩
  obtain ⟨sz, hsz⟩ : ∃ sz, sz = w2.heap.size := ⟨_, rfl⟩
  have hs5 := K2.out.size
  have hs6 := K6.out.size
  have hs56 : sz ≤ w6.heap.size := by rw [hsz]; exact HK56.out
  have HSZW := Lib.hid (show w.heap.size ≤ sz by omega)
  have HBR := Lib.hid (show rb < sz by rw [hsz]; exact lt_of_block R2.out)
  generalize w6.alloc (.cells #[.slice lad6 ln lc6, .slice pad6 pn pc6] 27) = w7 at m7 hb7 k7 ⊢
  rw [← hmb] at m7 hb7
  (try rw [← hmb])
  rw [← hsz] at m7
  have K7 := Lib.hid (K6.out.next1 k7)
  have E7 := Lib.hid ((k7.block lb (lt_of_block E6.out) (Nat.ne_of_lt (lt_of_block E6.out))).trans E6.out)
  have R7 := Lib.hid ((k7.block rb (lt_of_block R6.out) (Nat.ne_of_lt (lt_of_block R6.out))).trans R6.out)
  clear k7
  have F7 := Lib.hid (K7.out.fr (B := fun k => k < w.heap.size))
  have hl7 := HL.out HKL.out
  obtain ⟨g8, cap8, he8, hgb8, hth8, hm8, hg8⟩ := m7.leafPart k HKL.out (.mk l.name pub l.ver l.abv) ⟨HPB.out, HOK.out.2.1, HOK.out.2.2⟩ 1 (bcells pub) (by rw [bcells_length, HPB.out]; decide) (bcells_one pub) (by rw [← hl7]; exact Lf.put_pub HOK.out pub HPB.out)
  rw [← HLN.out] at he8
  injection he8 with hea hez hec
  subst hea
  clear hez hec
  obtain ⟨g9, cap9, he9, hgb9, hth9, hm9, hg9⟩ := hm8.leafPart k (by rw [List.length_set]; exact HKL.out) (Tt.renewed l pub) ⟨HPB.out, HOK.out.2.1, rfl⟩ 65 (bcells Tt.z32) (by decide) (bcells_one _) (by rw [List.getElem_set_self]; exact Lf.put_abv (l := .mk l.name pub l.ver l.abv) ⟨HPB.out, HOK.out.2.1, HOK.out.2.2⟩ Tt.z32 rfl)
  rw [List.set_set] at hm9
  injection he9 with hea hez hec
  injection hea with hea
  injection hea with hea heo hes
  subst hea
  clear hez hec
  rw [bcells_length, HPB.out] at hth8
  have HTH8 := Lib.hid hth8
  have HTH9 := Lib.hid (show (w7.setCells g8 (k * 97 + 1) (bcells pub)).there g8 (k * 97 + 65) 32 from hth9)
  have hb8 := (hg8.block mb (lt_of_block hb7) (fun e => hgb8 (.inr (Option.some.inj e).symm))).trans hb7
  have hr8 := (hg8.block rb (lt_of_block R7.out) (fun e => hgb8 (.inl (by rw [← Option.some.inj e]; exact HBR.out)))).trans R7.out
  have hf8 := F7.out.trans (grown_fr (B := fun k => k < w.heap.size) hg8 (fun k e b => by cases e; exact hgb8 (.inl (Nat.lt_of_lt_of_le b HSZW.out))))
  have hb9 := (hg9.block mb (lt_of_block hb8) (fun e => hgb8 (.inr (Option.some.inj e).symm))).trans hb8
  have hr9 := (hg9.block rb (lt_of_block hr8) (fun e => hgb8 (.inl (by rw [← Option.some.inj e]; exact HBR.out)))).trans hr8
  have hf9 := hf8.trans (grown_fr (B := fun k => k < w.heap.size) hg9 (fun k e b => by cases e; exact hgb8 (.inl (Nat.lt_of_lt_of_le b HSZW.out))))
  have hdl : bcells pub = D.toList := by rw [HDE.out]
  rw [hdl] at hm9 hb8 hb9 hr9 hf9 HTH9
  have B7 := Lib.hid hb7
  have B8 := Lib.hid hb8
  have M9 := Lib.hid hm9
  have B9 := Lib.hid hb9
  have R9 := Lib.hid hr9
  have F9 := Lib.hid hf9
  have HLH := Lib.hid (run_loadVar_row w7 lb 34 34 _ (0, 0) _ E7.out Try.underlying34 rfl HINF.out)
  clear m6 m7 hb7 hmb hsz hs5 hs6 hs56 K6 hgb8 hth8 hm8 hg8 hb8 hr8 hf8 hgb9 hth9 hm9 hg9 hb9 hr9 hf9 hdl hl7 heo hes
  have t0 := two_cell0 B7.out
  go_upto_region 5 with fail
  refine wp_region_lit ?_
  refine @BigFrame.wpList_want _ _ _ _ _ _ _ ?hw39010 ?_
  case hw39010 => kernel_rfl
  intro K hK
  go_simp
  refine hK _ _ ?_
  clear hK K
  refine @BigFrame.wpList_want _ _ _ _ _ _ _ ?hw39011 ?_
  case hw39011 => kernel_rfl
  intro K hK
  go_simp
  refine hK _ _ ?_
  clear hK K
  refine @BigFrame.wpList_want _ _ _ _ _ _ _ ?hw39012 ?_
  case hw39012 => kernel_rfl
  intro K hK
  go_simp
  refine hK _ _ ?_
  clear hK K
  refine @wpList_load_known _ _ _ _ _ _ _ ?hw39013 34 (.tmp 5) rfl (lb) (0) rfl (.agg D) (HLH.out) ?_
  case hw39013 => kernel_rfl
  simp only [Act.put, List.setIfInBounds_toArray, List.set_cons_zero, List.set_cons_succ]
  refine @BigFrame.wpList_want _ _ _ _ _ _ _ ?hw39014 ?_
  case hw39014 => kernel_rfl
  intro K hK
  go_simp
  refine hK _ _ ?_
  clear hK K
  refine @BigFrame.wpList_want _ _ _ _ _ _ _ ?hw39015 ?_
  case hw39015 => kernel_rfl
  intro K hK
  go_simp
  refine hK _ _ ?_
  clear hK K
  refine @wpL_store_mid _ _ _ _ _ _ _ ?hwz32 34 _ _ rfl (g8) (k * 97 + 1) D rfl rfl (by rw [HSZ.out]; exact HTH8.out) HINF.out HALL.out ?_
  case hwz32 => kernel_rfl
  simp only [Act.put]
  generalize w7.setCells g8 (k * 97 + 1) D.toList = w8 at B8 M9 B9 R9 F9 HTH9 ⊢
  clear t0 HTH8 HLH
  have t0 := two_cell0 B8.out
  go_upto_region 6 with fail
  refine wp_region_lit ?_
  refine @BigFrame.wpList_want _ _ _ _ _ _ _ ?hw39016 ?_
  case hw39016 => kernel_rfl
  intro K hK
  go_simp
  refine hK _ _ ?_
  clear hK K
  refine @BigFrame.wpList_want _ _ _ _ _ _ _ ?hw39017 ?_
  case hw39017 => kernel_rfl
  intro K hK
  go_simp
  refine hK _ _ ?_
  clear hK K
  refine @BigFrame.wpList_want _ _ _ _ _ _ _ ?hw39018 ?_
  case hw39018 => kernel_rfl
  intro K hK
  go_simp
  refine hK _ _ ?_
  clear hK K
  refine @wpL_build0 _ _ _ _ _ _ _ ?hw39019 34 rfl _ (build_zh2 _) ?_
  case hw39019 => kernel_rfl
  simp only [Act.put, List.setIfInBounds_toArray, List.set_cons_zero, List.set_cons_succ]
  refine @BigFrame.wpList_want _ _ _ _ _ _ _ ?hw39020 ?_
  case hw39020 => kernel_rfl
  intro K hK
  go_simp
  refine hK _ _ ?_
  clear hK K
  refine @BigFrame.wpList_want _ _ _ _ _ _ _ ?hw39021 ?_
  case hw39021 => kernel_rfl
  intro K hK
  go_simp
  refine hK _ _ ?_
  clear hK K
  refine @wpL_store_mid _ _ _ _ _ _ _ ?hwz33 34 _ _ rfl (g8) (k * 97 + 65) (bcells Tt.z32).toArray rfl rfl (by exact HTH9.out) (hashInfoT rfl) (bytesAll _) ?_
  case hwz33 => kernel_rfl
  simp only [Act.put]
  generalize w8.setCells g8 (k * 97 + 65) (bcells Tt.z32) = w9 at M9 B9 R9 F9 ⊢
  clear t0 HTH9
  obtain ⟨L1, hL1⟩ : ∃ L1, L1 = L.set k (Tt.renewed l pub) := ⟨_, rfl⟩
  rw [← hL1] at M9
  have hln1 : L1.length = ln := by rw [hL1, List.length_set, HLN.out]
  have HBA := Lib.hid (blankabove_calls _ _ _ L1 P SL6 (k : Int) w9 M9.out (by rw [hln1, HLN.out]; exact HN.out) (by rw [hln1, HLN.out]; exact HPE.out))
  rw [hln1] at HBA
  have HL1 := Lib.hid hL1
  clear hL1 hln1
  go_upto_region 7 with fail
  refine wp_region_lit ?_
  refine @wpList_load_known _ _ _ _ _ _ _ ?hw39022 27 (.tmp 9) rfl (mb) (0) rfl (.agg #[.slice (some ⟨g8, 0, none⟩) ln lc6, .slice pad6 pn pc6]) (run_loadVar_row w9 mb 27 27 _ (0, 0) _ B9.out Try.underlying27 rfl treeInfo) ?_
  case hw39022 => kernel_rfl
  simp only [Act.put, List.setIfInBounds_toArray, List.set_cons_zero, List.set_cons_succ]
  refine @BigFrame.wpList_want _ _ _ _ _ _ _ ?hw39023 ?_
  case hw39023 => kernel_rfl
  intro K hK
  go_simp
  refine hK _ _ ?_
  clear hK K
  refine @BigFrame.wpList_want _ _ _ _ _ _ _ ?hw39024 ?_
  case hw39024 => kernel_rfl
  intro K hK
  go_simp
  go_at_call 54
  refine (HBA.out).mono ?_
  rintro e w10 ⟨rfl, f10, SL10, m10⟩
  refine hK _ _ ?_
  clear hK K
  have B10 := Lib.hid ((f10.block mb (lt_of_block B9.out) (.inr rfl)).trans B9.out)
  have R10 := Lib.hid ((f10.block rb (lt_of_block R9.out) (.inl HBR.out)).trans R9.out)
  have F10 := Lib.hid (F9.out.trans (f10.mono (fun k b => .inl (Nat.lt_of_lt_of_le b HSZW.out))))
  obtain ⟨P1, hP1⟩ : ∃ P1, P1 = Tt.blanks (Bo.Direct (ln : Int) (k : Int)) P := ⟨_, rfl⟩
  rw [← hP1] at m10
  have HP1 := Lib.hid hP1
  have M10 := Lib.hid m10
  clear f10 m10 hP1
  go_upto_region 8 with fail
  refine wp_region_lit ?_
  refine @wpList_load_known _ _ _ _ _ _ _ ?hw39025 27 (.tmp 9) rfl (mb) (0) rfl (.agg #[.slice (some ⟨g8, 0, none⟩) ln lc6, .slice pad6 pn pc6]) (run_loadVar_row w10 mb 27 27 _ (0, 0) _ B10.out Try.underlying27 rfl treeInfo) ?_
  case hw39025 => kernel_rfl
  simp only [Act.put, List.setIfInBounds_toArray, List.set_cons_zero, List.set_cons_succ]
  refine wpList_store_row rfl 27 _ _ rfl (rb) #[.slice (some ⟨g8, 0, none⟩) ln lc6, .slice pad6 pn pc6] rfl rfl 27 #[.slice none 0 0, .slice none 0 0] R10.out treeInfo rfl (tree_all _ _ _ _ _ _) ?_
  simp only [Act.put]
  refine @BigFrame.wpList_want _ _ _ _ _ _ _ ?hw39026 ?_
  case hw39026 => kernel_rfl
  intro K hK
  go_simp
  refine hK _ _ ?_
  clear hK K
  have R12 := setRow_heap w10 rb _ #[.slice (some ⟨g8, 0, none⟩) ln lc6, .slice pad6 pn pc6] _ _ R10.out
  have g12 := grown_setRow w10 rb #[.slice (some ⟨g8, 0, none⟩) ln lc6, .slice pad6 pn pc6]
  have M12 := Lib.hid (M10.out.aside (b := rb) (.inl HBR.out) g12)
  have F12 := Lib.hid ((F10.out.trans (grown_fr (B := fun k => k < w.heap.size) g12 (fun k e b => by cases e; exact HRB.out b))).kept (fun k hk => hk))
  generalize w10.setRow rb #[.slice (some ⟨g8, 0, none⟩) ln lc6, .slice pad6 pn pc6] = wz at R12 g12 M12 F12 ⊢
  go_wp2
  refine bodyPost_ret (results_row2 rfl _ _ rb 27 _ (0, 0) _ rfl R12 Try.underlying27 rfl treeInfo) rfl ?_
  have hm := M12.out
  rw [HL1.out, HP1.out] at hm
  exact ⟨_, _, rfl, F12.out, SL10, hm.mono (fun _ b => .inl (Nat.lt_of_lt_of_le b HSZW.out))⟩

end Go.Proofs.Ytmmgekchfgmcdaa

namespace Go.Proofs.Ytmmgekchfgmcdaa
open Go.RowKit Go.Lib

set_option maxRecDepth 100000 in
set_option maxHeartbeats 6400000 in
theorem renew_none (lv pv : Value) (L : List Lf) (P : List Pr) (x : Int) (pub : List UInt8) (hpub : pub.length = 32) (w : World) (hL : Lvs w lv L) (hP : Pts w pv P) (hn : L.length ≤ 1000) (hp : P.length ≤ 1000) (hpl : ∀ p ∈ P, p.loose.length ≤ 1000) (hlk : Tt.lacks L P x = 7) :
    Calls Try.prog 20 #[.agg #[lv, pv], .int .i64 x, .agg (bcells pub).toArray] w fun e w' => e = .returned (.tuple #[.agg #[.slice none 0 0, .slice none 0 0], .int .i64 7]) ∧ Kept w.heap.size w.heap.size w w' := by
  have HLK := Lib.hid (fun (u : World) (kk : Kept w.heap.size w.heap.size w u) => lacks_calls lv pv L P x u (hL.kept kk) (hP.kept kk) hn hp hpl)
  rw [hlk] at HLK
  clear hlk
  obtain ⟨lad, lc, rfl⟩ := hL.shape
  obtain ⟨pad, pc, rfl⟩ := hP.shape
  obtain ⟨ln, hln⟩ : ∃ ln, ln = L.length := ⟨_, rfl⟩
  obtain ⟨pn, hpn⟩ : ∃ pn, pn = P.length := ⟨_, rfl⟩
  rw [← hln, ← hpn] at HLK ⊢
  have hln9 : (ln : Int) ≤ 1000 := by omega
  have HLN := Lib.hid hln
  have HPN := Lib.hid hpn
  have HPB := Lib.hid hpub
  obtain ⟨D, hD⟩ : ∃ D, D = (bcells pub).toArray := ⟨_, rfl⟩
  have HDE := Lib.hid hD
  have hsz : D.size = 32 := by rw [hD, List.size_toArray, bcells_length, hpub]
  have HSZ := Lib.hid hsz
  have hinf : (Try.prog.info? 34).map (·.size) = some D.size := by rw [hD]; exact hashInfoT (by rw [bcells_length, hpub])
  have HINF := Lib.hid hinf
  have HALL := Lib.hid (show D.all (·.oneCell') = true by rw [hD]; exact bytesAll pub)
  rw [← hD]
  clear hpub hD hsz hinf
  clear hL hP hn hp hpl hln hpn
  have k1 := (Kept.refl w.heap.size w.heap.size w).alloc (Nat.le_refl _) (.cells #[.slice lad ln lc, .slice pad pn pc] 27)
  have t1 := heap_new w (.cells #[.slice lad ln lc, .slice pad pn pc] 27)
  have s1 : (w.alloc (.cells #[.slice lad ln lc, .slice pad pn pc] 27)).heap.size = w.heap.size + 1 := by simp
  go_enter Try.func20, Try.ntmps20
  go_upto_region 1 with fail
  generalize w.alloc (.cells #[.slice lad ln lc, .slice pad pn pc] 27) = wa at k1 t1 s1 ⊢
  have k2 := (Kept.refl wa.heap.size wa.heap.size wa).alloc (Nat.le_refl _) (.cells D 34)
  have e2 := heap_new wa (.cells D 34)
  have s2 : (wa.alloc (.cells D 34)).heap.size = wa.heap.size + 1 := by simp
  have t2 := (k2.block _ (lt_of_block t1) (Nat.ne_of_lt (lt_of_block t1))).trans t1
  generalize wa.alloc (.cells D 34) = wb at k2 e2 s2 t2 ⊢
  have k3 := (Kept.refl wb.heap.size wb.heap.size wb).alloc (Nat.le_refl _) (.cells #[.slice none 0 0, .slice none 0 0] 27)
  have r3 := heap_new wb (.cells #[.slice none 0 0, .slice none 0 0] 27)
  have s3 : (wb.alloc (.cells #[.slice none 0 0, .slice none 0 0] 27)).heap.size = wb.heap.size + 1 := by simp
  have t3 := (k3.block _ (lt_of_block t2) (Nat.ne_of_lt (lt_of_block t2))).trans t2
  have e3 := (k3.block _ (lt_of_block e2) (Nat.ne_of_lt (lt_of_block e2))).trans e2
  generalize wb.alloc (.cells #[.slice none 0 0, .slice none 0 0] 27) = w1 at k3 r3 s3 t3 e3 ⊢
  have K1 := Lib.hid ((k1.next1 k2).next1 k3)
  rw [s2, s1] at r3 s3
  rw [s1] at e3
  (try rw [s2])
  (try rw [s1])
  obtain ⟨tb, htb⟩ : ∃ tb, tb = w.heap.size := ⟨_, rfl⟩
  obtain ⟨lb, hlb⟩ : ∃ lb, lb = w.heap.size + 1 := ⟨_, rfl⟩
  obtain ⟨rb, hrb⟩ : ∃ rb, rb = w.heap.size + 1 + 1 := ⟨_, rfl⟩
  rw [← hrb] at r3
  (try rw [← hrb])
  rw [← hlb] at e3
  (try rw [← hlb])
  rw [← htb] at t3
  (try rw [← htb])
  have HTL := Lib.hid (show tb ≠ lb by omega)
  have HTR := Lib.hid (show tb ≠ rb by omega)
  have HTB := Lib.hid (show ¬ tb < w.heap.size by omega)
  have HRB := Lib.hid (show ¬ rb < w.heap.size by omega)
  have HWS := Lib.hid (show w.heap.size ≤ w1.heap.size by omega)
  have T1 := Lib.hid t3
  have R1 := Lib.hid r3
  have E1 := Lib.hid e3
  clear k1 t1 s1 k2 e2 s2 t2 k3 r3 s3 t3 e3 htb hlb hrb
  refine wp_region_lit ?_
  refine @wpList_load_known _ _ _ _ _ _ _ ?hw43002 27 (.tmp 3) rfl (tb) (0) rfl (.agg #[.slice lad ln lc, .slice pad pn pc]) (run_loadVar_row w1 tb 27 27 _ (0, 0) _ T1.out Try.underlying27 rfl treeInfo) ?_
  case hw43002 => kernel_rfl
  simp only [Act.put, List.setIfInBounds_toArray, List.set_cons_zero, List.set_cons_succ]
  refine @BigFrame.wpList_want _ _ _ _ _ _ _ ?hw43003 ?_
  case hw43003 => kernel_rfl
  intro K hK
  go_simp
  refine hK _ _ ?_
  clear hK K
  refine @BigFrame.wpList_want _ _ _ _ _ _ _ ?hw43001 ?_
  case hw43001 => kernel_rfl
  intro K hK
  go_simp
  go_at_call 53
  refine (HLK.out _ K1.out).mono ?_
  rintro e w2 ⟨rfl, k2⟩
  have K2 := Lib.hid (K1.out.next1 k2)
  have T2 := Lib.hid ((k2.block tb (lt_of_block T1.out) (Nat.ne_of_lt (lt_of_block T1.out))).trans T1.out)
  have R2 := Lib.hid ((k2.block rb (lt_of_block R1.out) (Nat.ne_of_lt (lt_of_block R1.out))).trans R1.out)
  clear k2
  refine hK _ _ ?_
  clear hK K
  refine @BigFrame.wpList_want _ _ _ _ _ _ _ ?hw43004 ?_
  case hw43004 => kernel_rfl
  intro K hK
  go_simp
  refine hK _ _ ?_
  clear hK K
  go_upto_region 2 with fail
  refine wp_region_lit ?_
  refine @BigFrame.wpList_want _ _ _ _ _ _ _ ?hw43005 ?_
  case hw43005 => kernel_rfl
  intro K hK
  go_simp
  refine hK _ _ ?_
  clear hK K
  refine @BigFrame.wpList_want _ _ _ _ _ _ _ ?hw43006 ?_
  case hw43006 => kernel_rfl
  intro K hK
  go_simp
  refine hK _ _ ?_
  clear hK K
  go_upto_region 3 with fail
  refine wp_region_lit ?_
  refine @wpL_build0 _ _ _ _ _ _ _ ?hw43007 27 rfl _ (build_tree0 _) ?_
  case hw43007 => kernel_rfl
  simp only [Act.put, List.setIfInBounds_toArray, List.set_cons_zero, List.set_cons_succ]
  refine @BigFrame.wpList_want _ _ _ _ _ _ _ ?hw43008 ?_
  case hw43008 => kernel_rfl
  intro K hK
  go_simp
  refine hK _ _ ?_
  clear hK K
  refine wpList_store_row rfl 27 _ _ rfl (rb) #[.slice none 0 0, .slice none 0 0] rfl rfl 27 #[.slice none 0 0, .slice none 0 0] R2.out treeInfo rfl (tree_all _ _ _ _ _ _) ?_
  simp only [Act.put]
  refine @BigFrame.wpList_want _ _ _ _ _ _ _ ?hw43009 ?_
  case hw43009 => kernel_rfl
  intro K hK
  go_simp
  refine hK _ _ ?_
  clear hK K
  have R3 := setRow_heap w2 rb _ #[.slice none 0 0, .slice none 0 0] _ _ R2.out
  have K3 := Lib.hid (K2.out.grown (grown_setRow w2 rb #[.slice none 0 0, .slice none 0 0]) K2.out.size (fun k e => by cases e; exact Nat.le_of_not_lt HRB.out))
  generalize w2.setRow rb #[.slice none 0 0, .slice none 0 0] = w3 at R3 K3 ⊢
  go_wp2
  refine bodyPost_ret (results_row2 rfl _ _ rb 27 _ (0, 0) _ rfl R3 Try.underlying27 rfl treeInfo) rfl ?_
  exact ⟨rfl, K3.out⟩

set_option maxRecDepth 100000 in
set_option maxHeartbeats 6400000 in
theorem remove_none (lv pv : Value) (L : List Lf) (P : List Pr) (x : Int) (w : World) (hL : Lvs w lv L) (hP : Pts w pv P) (hn : L.length ≤ 1000) (hp : P.length ≤ 1000) (hpl : ∀ p ∈ P, p.loose.length ≤ 1000) (hlk : Tt.lacks L P x = 7) :
    Calls Try.prog 22 #[.agg #[lv, pv], .int .i64 x] w fun e w' => e = .returned (.tuple #[.agg #[.slice none 0 0, .slice none 0 0], .int .i64 7]) ∧ Kept w.heap.size w.heap.size w w' := by
  have HLK := Lib.hid (fun (u : World) (kk : Kept w.heap.size w.heap.size w u) => lacks_calls lv pv L P x u (hL.kept kk) (hP.kept kk) hn hp hpl)
  rw [hlk] at HLK
  clear hlk
  obtain ⟨lad, lc, rfl⟩ := hL.shape
  obtain ⟨pad, pc, rfl⟩ := hP.shape
  obtain ⟨ln, hln⟩ : ∃ ln, ln = L.length := ⟨_, rfl⟩
  obtain ⟨pn, hpn⟩ : ∃ pn, pn = P.length := ⟨_, rfl⟩
  rw [← hln, ← hpn] at HLK ⊢
  have hln9 : (ln : Int) ≤ 1000 := by omega
  have HLN := Lib.hid hln
  have HPN := Lib.hid hpn
  clear hL hP hn hp hpl hln hpn
  have k1 := (Kept.refl w.heap.size w.heap.size w).alloc (Nat.le_refl _) (.cells #[.slice lad ln lc, .slice pad pn pc] 27)
  have t1 := heap_new w (.cells #[.slice lad ln lc, .slice pad pn pc] 27)
  have s1 : (w.alloc (.cells #[.slice lad ln lc, .slice pad pn pc] 27)).heap.size = w.heap.size + 1 := by simp
  go_enter Try.func22, Try.ntmps22
  go_upto_region 1 with fail
  generalize w.alloc (.cells #[.slice lad ln lc, .slice pad pn pc] 27) = wa at k1 t1 s1 ⊢
  have k3 := (Kept.refl wa.heap.size wa.heap.size wa).alloc (Nat.le_refl _) (.cells #[.slice none 0 0, .slice none 0 0] 27)
  have r3 := heap_new wa (.cells #[.slice none 0 0, .slice none 0 0] 27)
  have s3 : (wa.alloc (.cells #[.slice none 0 0, .slice none 0 0] 27)).heap.size = wa.heap.size + 1 := by simp
  have t3 := (k3.block _ (lt_of_block t1) (Nat.ne_of_lt (lt_of_block t1))).trans t1
  generalize wa.alloc (.cells #[.slice none 0 0, .slice none 0 0] 27) = w1 at k3 r3 s3 t3 ⊢
  have K1 := Lib.hid (k1.next1 k3)
  rw [s1] at r3 s3
  (try rw [s1])
  obtain ⟨tb, htb⟩ : ∃ tb, tb = w.heap.size := ⟨_, rfl⟩
  obtain ⟨rb, hrb⟩ : ∃ rb, rb = w.heap.size + 1 := ⟨_, rfl⟩
  rw [← hrb] at r3
  (try rw [← hrb])
  rw [← htb] at t3
  (try rw [← htb])
  have HTR := Lib.hid (show tb ≠ rb by omega)
  have HTB := Lib.hid (show ¬ tb < w.heap.size by omega)
  have HRB := Lib.hid (show ¬ rb < w.heap.size by omega)
  have HWS := Lib.hid (show w.heap.size ≤ w1.heap.size by omega)
  have T1 := Lib.hid t3
  have R1 := Lib.hid r3
  clear k1 t1 s1 k3 r3 s3 t3 htb hrb
  refine wp_region_lit ?_
  refine @wpList_load_known _ _ _ _ _ _ _ ?hw43011 27 (.tmp 2) rfl (tb) (0) rfl (.agg #[.slice lad ln lc, .slice pad pn pc]) (run_loadVar_row w1 tb 27 27 _ (0, 0) _ T1.out Try.underlying27 rfl treeInfo) ?_
  case hw43011 => kernel_rfl
  simp only [Act.put, List.setIfInBounds_toArray, List.set_cons_zero, List.set_cons_succ]
  refine @BigFrame.wpList_want _ _ _ _ _ _ _ ?hw43012 ?_
  case hw43012 => kernel_rfl
  intro K hK
  go_simp
  refine hK _ _ ?_
  clear hK K
  refine @BigFrame.wpList_want _ _ _ _ _ _ _ ?hw43010 ?_
  case hw43010 => kernel_rfl
  intro K hK
  go_simp
  go_at_call 53
  refine (HLK.out _ K1.out).mono ?_
  rintro e w2 ⟨rfl, k2⟩
  have K2 := Lib.hid (K1.out.next1 k2)
  have T2 := Lib.hid ((k2.block tb (lt_of_block T1.out) (Nat.ne_of_lt (lt_of_block T1.out))).trans T1.out)
  have R2 := Lib.hid ((k2.block rb (lt_of_block R1.out) (Nat.ne_of_lt (lt_of_block R1.out))).trans R1.out)
  clear k2
  refine hK _ _ ?_
  clear hK K
  refine @BigFrame.wpList_want _ _ _ _ _ _ _ ?hw43013 ?_
  case hw43013 => kernel_rfl
  intro K hK
  go_simp
  refine hK _ _ ?_
  clear hK K
  go_upto_region 2 with fail
  refine wp_region_lit ?_
  refine @BigFrame.wpList_want _ _ _ _ _ _ _ ?hw43014 ?_
  case hw43014 => kernel_rfl
  intro K hK
  go_simp
  refine hK _ _ ?_
  clear hK K
  refine @BigFrame.wpList_want _ _ _ _ _ _ _ ?hw43015 ?_
  case hw43015 => kernel_rfl
  intro K hK
  go_simp
  refine hK _ _ ?_
  clear hK K
  go_upto_region 3 with fail
  refine wp_region_lit ?_
  refine @wpL_build0 _ _ _ _ _ _ _ ?hw43016 27 rfl _ (build_tree0 _) ?_
  case hw43016 => kernel_rfl
  simp only [Act.put, List.setIfInBounds_toArray, List.set_cons_zero, List.set_cons_succ]
  refine @BigFrame.wpList_want _ _ _ _ _ _ _ ?hw43017 ?_
  case hw43017 => kernel_rfl
  intro K hK
  go_simp
  refine hK _ _ ?_
  clear hK K
  refine wpList_store_row rfl 27 _ _ rfl (rb) #[.slice none 0 0, .slice none 0 0] rfl rfl 27 #[.slice none 0 0, .slice none 0 0] R2.out treeInfo rfl (tree_all _ _ _ _ _ _) ?_
  simp only [Act.put]
  refine @BigFrame.wpList_want _ _ _ _ _ _ _ ?hw43018 ?_
  case hw43018 => kernel_rfl
  intro K hK
  go_simp
  refine hK _ _ ?_
  clear hK K
  have R3 := setRow_heap w2 rb _ #[.slice none 0 0, .slice none 0 0] _ _ R2.out
  have K3 := Lib.hid (K2.out.grown (grown_setRow w2 rb #[.slice none 0 0, .slice none 0 0]) K2.out.size (fun k e => by cases e; exact Nat.le_of_not_lt HRB.out))
  generalize w2.setRow rb #[.slice none 0 0, .slice none 0 0] = w3 at R3 K3 ⊢
  go_wp2
  refine bodyPost_ret (results_row2 rfl _ _ rb 27 _ (0, 0) _ rfl R3 Try.underlying27 rfl treeInfo) rfl ?_
  exact ⟨rfl, K3.out⟩

set_option maxRecDepth 100000 in
set_option maxHeartbeats 6400000 in
theorem refrenew_none (lv pv : Value) (L : List Lf) (P : List Pr) (x : Int) (pub : List UInt8) (hpub : pub.length = 32) (w : World) (hL : Lvs w lv L) (hP : Pts w pv P) (hn : L.length ≤ 1000) (hno : Tt.none L x = true) :
    Calls Try.prog 21 #[.agg #[lv, pv], .int .i64 x, .agg (bcells pub).toArray] w fun e w' => e = .returned (.tuple #[.agg #[.slice none 0 0, .slice none 0 0], .int .i64 7]) ∧ Kept w.heap.size w.heap.size w w' := by
  have HLK := Lib.hid (fun (u : World) (kk : Kept w.heap.size w.heap.size w u) => refnone_calls lv pv L x u (hL.kept kk) hn (by obtain ⟨pad, pc, rfl⟩ := hP.shape; exact ⟨_, _, _, rfl⟩))
  rw [hno] at HLK
  clear hno
  obtain ⟨lad, lc, rfl⟩ := hL.shape
  obtain ⟨pad, pc, rfl⟩ := hP.shape
  obtain ⟨ln, hln⟩ : ∃ ln, ln = L.length := ⟨_, rfl⟩
  obtain ⟨pn, hpn⟩ : ∃ pn, pn = P.length := ⟨_, rfl⟩
  rw [← hln, ← hpn] at HLK ⊢
  have hln9 : (ln : Int) ≤ 1000 := by omega
  have HLN := Lib.hid hln
  have HPN := Lib.hid hpn
  have HPB := Lib.hid hpub
  obtain ⟨D, hD⟩ : ∃ D, D = (bcells pub).toArray := ⟨_, rfl⟩
  have HDE := Lib.hid hD
  have hsz : D.size = 32 := by rw [hD, List.size_toArray, bcells_length, hpub]
  have HSZ := Lib.hid hsz
  have hinf : (Try.prog.info? 34).map (·.size) = some D.size := by rw [hD]; exact hashInfoT (by rw [bcells_length, hpub])
  have HINF := Lib.hid hinf
  have HALL := Lib.hid (show D.all (·.oneCell') = true by rw [hD]; exact bytesAll pub)
  rw [← hD]
  clear hpub hD hsz hinf
  clear hL hP hn hln hpn
  have k1 := (Kept.refl w.heap.size w.heap.size w).alloc (Nat.le_refl _) (.cells #[.slice lad ln lc, .slice pad pn pc] 27)
  have t1 := heap_new w (.cells #[.slice lad ln lc, .slice pad pn pc] 27)
  have s1 : (w.alloc (.cells #[.slice lad ln lc, .slice pad pn pc] 27)).heap.size = w.heap.size + 1 := by simp
  go_enter Try.func21, Try.ntmps21
  go_upto_region 1 with fail
  generalize w.alloc (.cells #[.slice lad ln lc, .slice pad pn pc] 27) = wa at k1 t1 s1 ⊢
  have k2 := (Kept.refl wa.heap.size wa.heap.size wa).alloc (Nat.le_refl _) (.cells D 34)
  have e2 := heap_new wa (.cells D 34)
  have s2 : (wa.alloc (.cells D 34)).heap.size = wa.heap.size + 1 := by simp
  have t2 := (k2.block _ (lt_of_block t1) (Nat.ne_of_lt (lt_of_block t1))).trans t1
  generalize wa.alloc (.cells D 34) = wb at k2 e2 s2 t2 ⊢
  have k3 := (Kept.refl wb.heap.size wb.heap.size wb).alloc (Nat.le_refl _) (.cells #[.slice none 0 0, .slice none 0 0] 27)
  have r3 := heap_new wb (.cells #[.slice none 0 0, .slice none 0 0] 27)
  have s3 : (wb.alloc (.cells #[.slice none 0 0, .slice none 0 0] 27)).heap.size = wb.heap.size + 1 := by simp
  have t3 := (k3.block _ (lt_of_block t2) (Nat.ne_of_lt (lt_of_block t2))).trans t2
  have e3 := (k3.block _ (lt_of_block e2) (Nat.ne_of_lt (lt_of_block e2))).trans e2
  generalize wb.alloc (.cells #[.slice none 0 0, .slice none 0 0] 27) = w1 at k3 r3 s3 t3 e3 ⊢
  have K1 := Lib.hid ((k1.next1 k2).next1 k3)
  rw [s2, s1] at r3 s3
  rw [s1] at e3
  (try rw [s2])
  (try rw [s1])
  obtain ⟨tb, htb⟩ : ∃ tb, tb = w.heap.size := ⟨_, rfl⟩
  obtain ⟨lb, hlb⟩ : ∃ lb, lb = w.heap.size + 1 := ⟨_, rfl⟩
  obtain ⟨rb, hrb⟩ : ∃ rb, rb = w.heap.size + 1 + 1 := ⟨_, rfl⟩
  rw [← hrb] at r3
  (try rw [← hrb])
  rw [← hlb] at e3
  (try rw [← hlb])
  rw [← htb] at t3
  (try rw [← htb])
  have HTL := Lib.hid (show tb ≠ lb by omega)
  have HTR := Lib.hid (show tb ≠ rb by omega)
  have HTB := Lib.hid (show ¬ tb < w.heap.size by omega)
  have HRB := Lib.hid (show ¬ rb < w.heap.size by omega)
  have HWS := Lib.hid (show w.heap.size ≤ w1.heap.size by omega)
  have T1 := Lib.hid t3
  have R1 := Lib.hid r3
  have E1 := Lib.hid e3
  clear k1 t1 s1 k2 e2 s2 t2 k3 r3 s3 t3 e3 htb hlb hrb
  refine wp_region_lit ?_
  refine @wpList_load_known _ _ _ _ _ _ _ ?hw43020 27 (.tmp 3) rfl (tb) (0) rfl (.agg #[.slice lad ln lc, .slice pad pn pc]) (run_loadVar_row w1 tb 27 27 _ (0, 0) _ T1.out Try.underlying27 rfl treeInfo) ?_
  case hw43020 => kernel_rfl
  simp only [Act.put, List.setIfInBounds_toArray, List.set_cons_zero, List.set_cons_succ]
  refine @BigFrame.wpList_want _ _ _ _ _ _ _ ?hw43021 ?_
  case hw43021 => kernel_rfl
  intro K hK
  go_simp
  refine hK _ _ ?_
  clear hK K
  refine @BigFrame.wpList_want _ _ _ _ _ _ _ ?hw43019 ?_
  case hw43019 => kernel_rfl
  intro K hK
  go_simp
  go_at_call 55
  refine (HLK.out _ K1.out).mono ?_
  rintro e w2 ⟨rfl, k2⟩
  have K2 := Lib.hid (K1.out.next1 k2)
  have T2 := Lib.hid ((k2.block tb (lt_of_block T1.out) (Nat.ne_of_lt (lt_of_block T1.out))).trans T1.out)
  have R2 := Lib.hid ((k2.block rb (lt_of_block R1.out) (Nat.ne_of_lt (lt_of_block R1.out))).trans R1.out)
  clear k2
  refine hK _ _ ?_
  clear hK K
  go_upto_region 2 with fail
  refine wp_region_lit ?_
  refine @wpL_build0 _ _ _ _ _ _ _ ?hw43022 27 rfl _ (build_tree0 _) ?_
  case hw43022 => kernel_rfl
  simp only [Act.put, List.setIfInBounds_toArray, List.set_cons_zero, List.set_cons_succ]
  refine wpList_store_row rfl 27 _ _ rfl (rb) #[.slice none 0 0, .slice none 0 0] rfl rfl 27 #[.slice none 0 0, .slice none 0 0] R2.out treeInfo rfl (tree_all _ _ _ _ _ _) ?_
  simp only [Act.put]
  refine @BigFrame.wpList_want _ _ _ _ _ _ _ ?hw43023 ?_
  case hw43023 => kernel_rfl
  intro K hK
  go_simp
  refine hK _ _ ?_
  clear hK K
  have R3 := setRow_heap w2 rb _ #[.slice none 0 0, .slice none 0 0] _ _ R2.out
  have K3 := Lib.hid (K2.out.grown (grown_setRow w2 rb #[.slice none 0 0, .slice none 0 0]) K2.out.size (fun k e => by cases e; exact Nat.le_of_not_lt HRB.out))
  generalize w2.setRow rb #[.slice none 0 0, .slice none 0 0] = w3 at R3 K3 ⊢
  go_wp2
  refine bodyPost_ret (results_row2 rfl _ _ rb 27 _ (0, 0) _ rfl R3 Try.underlying27 rfl treeInfo) rfl ?_
  exact ⟨rfl, K3.out⟩

set_option maxRecDepth 100000 in
set_option maxHeartbeats 6400000 in
theorem refremove_none (lv pv : Value) (L : List Lf) (P : List Pr) (x : Int) (w : World) (hL : Lvs w lv L) (hP : Pts w pv P) (hn : L.length ≤ 1000) (hno : Tt.none L x = true) :
    Calls Try.prog 23 #[.agg #[lv, pv], .int .i64 x] w fun e w' => e = .returned (.tuple #[.agg #[.slice none 0 0, .slice none 0 0], .int .i64 7]) ∧ Kept w.heap.size w.heap.size w w' := by
  have HLK := Lib.hid (fun (u : World) (kk : Kept w.heap.size w.heap.size w u) => refnone_calls lv pv L x u (hL.kept kk) hn (by obtain ⟨pad, pc, rfl⟩ := hP.shape; exact ⟨_, _, _, rfl⟩))
  rw [hno] at HLK
  clear hno
  obtain ⟨lad, lc, rfl⟩ := hL.shape
  obtain ⟨pad, pc, rfl⟩ := hP.shape
  obtain ⟨ln, hln⟩ : ∃ ln, ln = L.length := ⟨_, rfl⟩
  obtain ⟨pn, hpn⟩ : ∃ pn, pn = P.length := ⟨_, rfl⟩
  rw [← hln, ← hpn] at HLK ⊢
  have hln9 : (ln : Int) ≤ 1000 := by omega
  have HLN := Lib.hid hln
  have HPN := Lib.hid hpn
  clear hL hP hn hln hpn
  have k1 := (Kept.refl w.heap.size w.heap.size w).alloc (Nat.le_refl _) (.cells #[.slice lad ln lc, .slice pad pn pc] 27)
  have t1 := heap_new w (.cells #[.slice lad ln lc, .slice pad pn pc] 27)
  have s1 : (w.alloc (.cells #[.slice lad ln lc, .slice pad pn pc] 27)).heap.size = w.heap.size + 1 := by simp
  go_enter Try.func23, Try.ntmps23
  go_upto_region 1 with fail
  generalize w.alloc (.cells #[.slice lad ln lc, .slice pad pn pc] 27) = wa at k1 t1 s1 ⊢
  have k3 := (Kept.refl wa.heap.size wa.heap.size wa).alloc (Nat.le_refl _) (.cells #[.slice none 0 0, .slice none 0 0] 27)
  have r3 := heap_new wa (.cells #[.slice none 0 0, .slice none 0 0] 27)
  have s3 : (wa.alloc (.cells #[.slice none 0 0, .slice none 0 0] 27)).heap.size = wa.heap.size + 1 := by simp
  have t3 := (k3.block _ (lt_of_block t1) (Nat.ne_of_lt (lt_of_block t1))).trans t1
  generalize wa.alloc (.cells #[.slice none 0 0, .slice none 0 0] 27) = w1 at k3 r3 s3 t3 ⊢
  have K1 := Lib.hid (k1.next1 k3)
  rw [s1] at r3 s3
  (try rw [s1])
  obtain ⟨tb, htb⟩ : ∃ tb, tb = w.heap.size := ⟨_, rfl⟩
  obtain ⟨rb, hrb⟩ : ∃ rb, rb = w.heap.size + 1 := ⟨_, rfl⟩
  rw [← hrb] at r3
  (try rw [← hrb])
  rw [← htb] at t3
  (try rw [← htb])
  have HTR := Lib.hid (show tb ≠ rb by omega)
  have HTB := Lib.hid (show ¬ tb < w.heap.size by omega)
  have HRB := Lib.hid (show ¬ rb < w.heap.size by omega)
  have HWS := Lib.hid (show w.heap.size ≤ w1.heap.size by omega)
  have T1 := Lib.hid t3
  have R1 := Lib.hid r3
  clear k1 t1 s1 k3 r3 s3 t3 htb hrb
  refine wp_region_lit ?_
  refine @wpList_load_known _ _ _ _ _ _ _ ?hw43025 27 (.tmp 2) rfl (tb) (0) rfl (.agg #[.slice lad ln lc, .slice pad pn pc]) (run_loadVar_row w1 tb 27 27 _ (0, 0) _ T1.out Try.underlying27 rfl treeInfo) ?_
  case hw43025 => kernel_rfl
  simp only [Act.put, List.setIfInBounds_toArray, List.set_cons_zero, List.set_cons_succ]
  refine @BigFrame.wpList_want _ _ _ _ _ _ _ ?hw43026 ?_
  case hw43026 => kernel_rfl
  intro K hK
  go_simp
  refine hK _ _ ?_
  clear hK K
  refine @BigFrame.wpList_want _ _ _ _ _ _ _ ?hw43024 ?_
  case hw43024 => kernel_rfl
  intro K hK
  go_simp
  go_at_call 55
  refine (HLK.out _ K1.out).mono ?_
  rintro e w2 ⟨rfl, k2⟩
  have K2 := Lib.hid (K1.out.next1 k2)
  have T2 := Lib.hid ((k2.block tb (lt_of_block T1.out) (Nat.ne_of_lt (lt_of_block T1.out))).trans T1.out)
  have R2 := Lib.hid ((k2.block rb (lt_of_block R1.out) (Nat.ne_of_lt (lt_of_block R1.out))).trans R1.out)
  clear k2
  refine hK _ _ ?_
  clear hK K
  go_upto_region 2 with fail
  refine wp_region_lit ?_
  refine @wpL_build0 _ _ _ _ _ _ _ ?hw43027 27 rfl _ (build_tree0 _) ?_
  case hw43027 => kernel_rfl
  simp only [Act.put, List.setIfInBounds_toArray, List.set_cons_zero, List.set_cons_succ]
  refine wpList_store_row rfl 27 _ _ rfl (rb) #[.slice none 0 0, .slice none 0 0] rfl rfl 27 #[.slice none 0 0, .slice none 0 0] R2.out treeInfo rfl (tree_all _ _ _ _ _ _) ?_
  simp only [Act.put]
  refine @BigFrame.wpList_want _ _ _ _ _ _ _ ?hw43028 ?_
  case hw43028 => kernel_rfl
  intro K hK
  go_simp
  refine hK _ _ ?_
  clear hK K
  have R3 := setRow_heap w2 rb _ #[.slice none 0 0, .slice none 0 0] _ _ R2.out
  have K3 := Lib.hid (K2.out.grown (grown_setRow w2 rb #[.slice none 0 0, .slice none 0 0]) K2.out.size (fun k e => by cases e; exact Nat.le_of_not_lt HRB.out))
  generalize w2.setRow rb #[.slice none 0 0, .slice none 0 0] = w3 at R3 K3 ⊢
  go_wp2
  refine bodyPost_ret (results_row2 rfl _ _ rb 27 _ (0, 0) _ rfl R3 Try.underlying27 rfl treeInfo) rfl ?_
  exact ⟨rfl, K3.out⟩

end Go.Proofs.Ytmmgekchfgmcdaa
