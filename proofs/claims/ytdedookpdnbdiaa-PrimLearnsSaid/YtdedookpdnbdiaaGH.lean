/-
  BookAwakeMath; BookAwakeRow; BookNoted; BookFewMath: several texts in one.
-/
import Derived.Test.YtdedookpdnbdiaaGD
import Derived.Test.YtdedookpdnbdiaaGG
import Derived.Test.YtdedookpdnbdiaaGF
import Derived.OwnWalk

namespace Go.Proofs.Ytdedookpdnbdiaa

/-- The digest of one byte and nothing else. -/
def dg (i : UInt8) : List UInt8 := i :: List.replicate 31 0
theorem dg_length (i : UInt8) : (dg i).length = 32 := rfl
theorem dg_inj {i j : UInt8} (h : dg i = dg j) : i = j := (List.cons.inj h).1
def exf1 : List (List UInt8) × List (List UInt8) := ([dg 1], [dg 2])
def exf2 : List (List UInt8) × List (List UInt8) := ([dg 2, dg 3], [dg 4])
theorem ex_note1 : Bk.note [] exf1 = [exf1] := rfl
theorem ex_note2 : Bk.note [exf1] exf2 = [exf1, exf2] := by decide
theorem ex_one {x : List UInt8} (h : Bk.Cl [exf1, exf2] [dg 1] x) : x = dg 1 ∨ x = dg 2 := by
  induction h with
  | base x hx => exact .inl (List.mem_singleton.1 hx)
  | fact f o hf _ ho ih =>
    rcases List.mem_cons.1 hf with rfl | hf
    · exact .inr (List.mem_singleton.1 ho)
    · obtain rfl := List.mem_singleton.1 hf
      have h3 := ih (dg 3) (by simp [exf2])
      rcases h3 with h3 | h3
      · exact absurd (dg_inj h3) (by decide)
      · exact absurd (dg_inj h3) (by decide)
theorem ex_two : Bk.Cl [exf1, exf2] [dg 1] (dg 2) := .fact exf1 _ (by simp) (fun x hx => .base x hx) (by simp [exf1])
theorem ex_not : ¬ Bk.Cl [exf1, exf2] [dg 1] (dg 4) := fun h => by
  rcases ex_one h with h | h
  · exact absurd (dg_inj h) (by decide)
  · exact absurd (dg_inj h) (by decide)
theorem ex_four : Bk.Cl [exf1, exf2] [dg 1, dg 3] (dg 4) := by
  refine .fact exf2 _ (by simp) (fun x hx => ?_) (by simp [exf2])
  rcases List.mem_cons.1 hx with rfl | hx
  · exact .fact exf1 _ (by simp) (fun x hx => .base x (by rw [List.mem_singleton.1 hx]; simp)) (by simp [exf1])
  · rw [List.mem_singleton.1 hx]
    exact .base _ (by simp)
theorem ex_is {M : List (List UInt8)} (h : Bk.Is [exf1, exf2] [dg 1] M) : M.length = 2 := by
  have hk : Bk.Is [exf1, exf2] [dg 1] [dg 1, dg 2] := by
    refine ⟨List.Pairwise.cons (fun x hx => ?_) (List.Pairwise.cons (fun x hx => nomatch hx) List.Pairwise.nil), fun x => ⟨fun hx => ?_, fun hx => ?_⟩⟩
    · rw [List.mem_singleton.1 hx]
      rfl
    · rcases List.mem_cons.1 hx with rfl | hx
      · exact .base _ (by simp)
      · rw [List.mem_singleton.1 hx]
        exact ex_two
    · rcases ex_one hx with rfl | rfl <;> simp
  rw [Bk.Is.one h hk]
  rfl

end Go.Proofs.Ytdedookpdnbdiaa

namespace Go.Proofs.Ytdedookpdnbdiaa
open Go.RowKit Go.Lib

section
variable {P : Program} {ops : Array Oper} {rest : List Oper} {o : Oper} {a : Act} {w w' : World} {Q : Exit → Act → World → Prop}
theorem wpList_build_k (hgd : o.guard = none) (t : TypeId) (x : Operand) (ho : o.op = .build t #[(0, x)]) (v : Value) {u : Value} (hx : a.eval x = v) (hr : (Instr.build t #[(0, v)]).run P w = .ok u w) (hk : wpList P ops Q rest (a.put o.dst u) w) : wpList P ops Q (o :: rest) a w := by
  refine wpList_plain hgd fun K hK => ?_
  unfold Oper.wp execOp
  simp only [ho, List.map_toArray, List.map_cons, List.map_nil, hx, Sem.run_bind, hr, Result.andThen_ok, Sem.run_pure]
  exact hK _ _ hk
theorem wpList_alloc_k (hgd : o.guard = none) (t : TypeId) (ho : o.op = .alloc t) {u : Value} (hr : (Instr.alloc t true (.tuple #[])).run P w = .ok u w') (hk : wpList P ops Q rest (a.put o.dst u) w') : wpList P ops Q (o :: rest) a w := by
  refine wpList_plain hgd fun K hK => ?_
  unfold Oper.wp execOp
  simp only [ho, Sem.run_bind, hr, Result.andThen_ok, Sem.run_pure]
  exact hK _ _ hk
end
theorem build_dg1 (w : World) : (Instr.build 34 #[(0, .int .u8 1)]).run Try.prog w = .ok (.agg (bcells (dg 1)).toArray) w := by kernel_rfl
theorem build_dg2 (w : World) : (Instr.build 34 #[(0, .int .u8 2)]).run Try.prog w = .ok (.agg (bcells (dg 2)).toArray) w := by kernel_rfl
theorem build_dg3 (w : World) : (Instr.build 34 #[(0, .int .u8 3)]).run Try.prog w = .ok (.agg (bcells (dg 3)).toArray) w := by kernel_rfl
theorem build_dg4 (w : World) : (Instr.build 34 #[(0, .int .u8 4)]).run Try.prog w = .ok (.agg (bcells (dg 4)).toArray) w := by kernel_rfl
theorem alloc_zero (w : World) : (Instr.alloc 34 true (.tuple #[])).run Try.prog w = .ok (.pointer (some ⟨w.heap.size, 0, none⟩)) (w.alloc (.cells zeros32 34)) := by
  rw [← zeros32_eq]
  kernel_rfl

/-- A digest stored into its variable: the others stay. -/
theorem four_set {w : World} {g h : Nat} {cs old : Array Value} (hg : w.heap[g]? = some (.cells cs 34 (0, 0))) (hne : g ≠ h) : (w.setRow h old).heap[g]? = some (.cells cs 34 (0, 0)) := by
  rw [setRow_other39 w h g old hne]
  exact hg

theorem hs_one {w : World} {g c : Nat} {l : List UInt8} (hl : l.length = 32) (h : w.heap[g]? = some (.cells (bcells l).toArray 34 (0, 0))) : Hs w (.slice (some ⟨g, 0, none⟩) 1 c) [l] := ⟨fun x hx => by rw [List.mem_singleton.1 hx]; exact hl, some ⟨g, 0, none⟩, g, 0, c, rfl, fun i hi => by
  obtain rfl : i = 0 := by simp at hi; omega
  exact ⟨rfl, lt_of_block h, fun j v hv => by rw [Nat.zero_mul, Nat.zero_add]; exact cells_get h hv⟩⟩
theorem hs_two {w : World} {g c : Nat} {l m : List UInt8} (hl : l.length = 32) (hm : m.length = 32) (h : w.heap[g]? = some (.cells (bcells l ++ bcells m).toArray 34 (0, 0))) : Hs w (.slice (some ⟨g, 0, none⟩) 2 c) [l, m] := by
  refine ⟨fun x hx => ?_, some ⟨g, 0, none⟩, g, 0, c, rfl, fun i hi => ?_⟩
  · rcases List.mem_cons.1 hx with rfl | hx
    · exact hl
    · rw [List.mem_singleton.1 hx]
      exact hm
  · have hi2 : i = 0 ∨ i = 1 := by simp at hi; omega
    rcases hi2 with rfl | rfl
    · refine ⟨rfl, lt_of_block h, fun j v hv => ?_⟩
      rw [Nat.zero_mul, Nat.zero_add]
      refine cells_get h ?_
      have hv2 : (bcells l)[j]? = some v := hv
      rw [List.getElem?_append_left (List.getElem?_eq_some_iff.1 hv2).1]
      exact hv2
    · refine ⟨rfl, lt_of_block h, fun j v hv => ?_⟩
      rw [Nat.one_mul, Nat.zero_add]
      refine cells_get h ?_
      have hbl : (bcells l).length = 32 := by rw [bcells_length, hl]
      rw [List.getElem?_append_right (by omega), hbl, Nat.add_sub_cancel_left]
      exact hv

end Go.Proofs.Ytdedookpdnbdiaa

namespace Go.Proofs.Ytdedookpdnbdiaa
open Go.RowKit Go.Lib

/-- A book stays where the document's list of facts grows. -/
theorem Bok.stayF {w w' : World} {base bb b : Nat} {fs : List (List (List UInt8) × List (List UInt8))} {nmf : Lit → Option Value} {S : BokS} (h : Bok w base bb fs b nmf S) (k : StayF w w') : Bok w' base bb fs b nmf S := by
  have hc : ∀ (i : Nat) (cs : Array Value) (t : TypeId) (fr : Nat × Nat), t ≠ 66 → w.heap[i]? = some (.cells cs t fr) → w'.heap[i]? = some (.cells cs t fr) := fun i cs t fr ht hh => k i _ hh (fun cs2 fr2 e => by
    injection e with _ h2 _
    exact ht h2)
  have hm : ∀ {i : Nat}, (∃ es c, w.heap[i]? = some (.map es c)) → w'.heap[i]? = w.heap[i]? := fun {i} ⟨es, c, hh⟩ => by
    rw [hh]
    exact k i _ hh (fun cs2 fr2 e => by cases e)
  refine ⟨hc _ _ _ _ (by decide) h.cells, h.lowb, h.lowa, h.lown, h.lowm, h.an, h.amm, h.nmm, ?_, h.alike.same (hm h.alike.map), h.need.same (hm h.need.map), h.names.same (hm h.names.map), fun o => (h.row o).stay fun i hi => ?_, h.sep, h.free, h.needed, h.same, h.found, h.few⟩
  · refine h.facts.stay (fun i hi => ?_) (fun i cs fr hh => hc _ _ _ _ (by decide) hh)
    obtain ⟨ps, _, ho, _⟩ := h.facts
    obtain ⟨cs, hh⟩ := rowCells ho i hi
    rw [hh]
    exact hc _ _ _ _ (by decide) hh
  · obtain ⟨cs, hh⟩ := (h.row o).cellsAt i hi
    rw [hh]
    exact hc _ _ _ _ (by decide) hh
/-- The document's list stays where the book grows. -/
theorem OwnF.bk {w w' : World} {base b : Nat} {v : Value} {L : List (List (List UInt8) × List (List UInt8))} (h : OwnF w base v L) (k : BkFr b w w') : OwnF w' base v L := by
  obtain ⟨ps, hl, ho, hp⟩ := h
  have one : ∀ {B : Nat} {u : Value} {M : List (List UInt8)}, Own w B u M → Own w' B u M := fun {B u M} h => by
    refine ⟨h.1, h.2.1, ?_⟩
    rcases h.2.2 with h1 | ⟨g, cap, cur, rfl, hb2, hh, rest⟩
    · exact .inl h1
    · exact .inr ⟨g, cap, cur, rfl, hb2, k.oth _ _ _ _ hh (by decide) (by decide) (by decide), rest⟩
  refine ⟨ps, hl, ⟨ho.1, ?_⟩, fun i hi hpi => ⟨one (hp i hi hpi).1, one (hp i hi hpi).2⟩⟩
  rcases ho.2 with h1 | ⟨g, cap, cur, rfl, hb2, hh, rest⟩
  · exact .inl h1
  · exact .inr ⟨g, cap, cur, rfl, hb2, k.oth _ _ _ _ hh (by decide) (by decide) (by decide), rest⟩

/-- Facts noted one behind the other. -/
def notes (L : List (List (List UInt8) × List (List UInt8))) : List (List (List UInt8) × List (List UInt8)) := L.foldl Bk.note []
theorem notes_more (L : List (List (List UInt8) × List (List UInt8))) (k : Nat) (h : k < L.length) : notes (L.take (k + 1)) = Bk.note (notes (L.take k)) L[k] := by
  rw [List.take_succ_eq_append_getElem h, notes, notes, List.foldl_append]
  rfl
theorem bknote_length (fs : List (List (List UInt8) × List (List UInt8))) (f : List (List UInt8) × List (List UInt8)) : (Bk.note fs f).length ≤ fs.length + 1 := by
  unfold Bk.note
  split
  · omega
  · split
    · omega
    · simp
theorem bknote_mem (fs : List (List (List UInt8) × List (List UInt8))) (f g : List (List UInt8) × List (List UInt8)) (h : g ∈ Bk.note fs f) : g ∈ fs ∨ g = f := by
  unfold Bk.note at h
  split at h
  · exact .inl h
  · split at h
    · exact .inl h
    · simpa using h
theorem notes_length (L : List (List (List UInt8) × List (List UInt8))) : ∀ k, k ≤ L.length → (notes (L.take k)).length ≤ k
  | 0, _ => by simp [notes]
  | k + 1, h => by
    rw [notes_more L k (by omega)]
    have := notes_length L k (by omega)
    have := bknote_length (notes (L.take k)) L[k]
    omega
theorem notes_mem (L : List (List (List UInt8) × List (List UInt8))) : ∀ k, k ≤ L.length → ∀ g ∈ notes (L.take k), g ∈ L
  | 0, _, g, hg => by simp [notes] at hg
  | k + 1, h, g, hg => by
    rw [notes_more L k (by omega)] at hg
    rcases bknote_mem _ _ _ hg with h1 | rfl
    · exact notes_mem L k (by omega) g h1
    · exact List.getElem_mem _

theorem notedFactInfo : (Try.prog.info? 104).map (·.size) = some 2 := by kernel_rfl

/-- What is noted. -/
def NotedPost (L : List (List (List UInt8) × List (List UInt8))) (w : World) (e : Ending) (w' : World) : Prop :=
  ∃ bb u, e = .returned (.tuple #[.pointer (some ⟨bb, 0, none⟩), u, .bool true]) ∧ (∃ n, n ≤ 62 * L.length ∧ ∃ S, Bok w' w.heap.size bb (notes L) n (fun _ => none) S) ∧ OwnF w' w.heap.size u (notes L) ∧ Kept w.heap.size w.heap.size w w'

set_option maxRecDepth 100000 in
set_option maxHeartbeats 3200000 in
theorem noted_calls (L : List (List (List UInt8) × List (List UInt8))) (v : Value) (w : World) (hF : FsW w v L) (hFew : Few L) : Calls Try.prog 16 #[v] w (NotedPost L w) := by
  have hL60 := hFew.1
  have hsz := hFew.2
  obtain ⟨ad, g, o, c, rfl, hcell⟩ := hF
  have HC := Lib.hid hcell
  have HSZ := Lib.hid hsz
  clear hcell hsz hFew
  have hnew := new_book w
  have HNEW := Lib.hid hnew
  clear hnew
  go_enter Try.func16, Try.ntmps16
  go_wp2_with (go_at_call 42; refine HNEW.out.mono ?_; rintro e w0 ⟨bb, S0, rfl, hB0, k0⟩)
  have HB0 := Lib.hid hB0
  have HK0 := Lib.hid k0
  clear hB0 k0 HNEW
  go_loopw [6, 7, 8] (fun u ok i w9 => ∃ k : Nat, k ≤ L.length ∧ i = .int .i64 (k : Int) ∧ ok = .bool true ∧ Hid (∃ n, n ≤ 62 * k ∧ ∃ S, Bok w9 w.heap.size bb (notes (L.take k)) n (fun _ => none) S) ∧ Hid (OwnF w9 w.heap.size u (notes (L.take k))) ∧ Hid (Kept w.heap.size w.heap.size w w9)) (fun _ _ i _ => L.length - (RowKit.intOf i).toNat)
  case atStart => exact ⟨0, by omega, rfl, rfl, Lib.hid ⟨0, by omega, S0, HB0.out⟩, Lib.hid (OwnF.nil _ _), HK0⟩
  case round =>
    obtain ⟨k, hk, rfl, rfl, hBk, hO, hK⟩ := hrel
    by_cases hlt : k < L.length
    · obtain ⟨rfl, hg, a, b, ca, cb, ha, hb, wa, wb⟩ := HC.out k hlt
      have hln : (k : Int) < (L.length : Int) := by omega
      have hk0 : ¬ (k : Int) < 0 := by omega
      obtain ⟨hz1, hz2⟩ := HSZ.out L[k] (List.getElem_mem hlt)
      have hnm := notes_more L k hlt
      have hnl := notes_length L k (by omega)
      have hns : ∀ f ∈ notes (L.take k), f.1.length ≤ 60 ∧ f.2.length ≤ 60 := fun f hf => HSZ.out f (notes_mem L k (by omega) f hf)
      generalize L[k] = f at ha hb hz1 hz2 hnm
      generalize notes (L.take k) = M at hBk hO hnm hnl hns
      obtain ⟨zp1, aad, ag, ao, ac, rfl, zp2⟩ := id ha
      clear zp1 zp2
      obtain ⟨zp1, bad, bg, bo, bc, rfl, zp2⟩ := id hb
      clear zp1 zp2
      obtain ⟨a, ea⟩ : ∃ a : Value, a = .slice aad f.1.length ac := ⟨_, rfl⟩
      obtain ⟨b, eb⟩ : ∃ b : Value, b = .slice bad f.2.length bc := ⟨_, rfl⟩
      rw [← ea] at ha ca wa
      rw [← eb] at hb cb wb
      have hEi : ∃ E : Int, E = if f.2.length = 0 then 1 else 0 := ⟨_, rfl⟩
      obtain ⟨E, hE⟩ := hEi
      have hbase := hK.out.size
      have hcaW : ∀ w', Kept wr.heap.size wr.heap.size wr w' → w'.cell? ⟨g, o + k * 2, none⟩ = some a := fun w' kk => (kk.cell (p := ⟨g, o + k * 2, none⟩) (by show g < _; omega) (by show g ≠ _; omega)).trans ((hK.out.cell (p := ⟨g, o + k * 2, none⟩) hg (Nat.ne_of_lt hg)).trans ca)
      have hcbW : ∀ w', Kept wr.heap.size wr.heap.size wr w' → w'.cell? ⟨g, o + k * 2 + 1, none⟩ = some b := fun w' kk => (kk.cell (p := ⟨g, o + k * 2 + 1, none⟩) (by show g < _; omega) (by show g ≠ _; omega)).trans ((hK.out.cell (p := ⟨g, o + k * 2 + 1, none⟩) hg (Nat.ne_of_lt hg)).trans cb)
      have hrow : ∀ w', Kept w.heap.size w.heap.size w w' → w'.rangeAt g (o + k * 2) [a, b] := fun w' kk j u hj => by
        match j, hj with
        | 0, hj => cases hj; exact (kk.cell (p := ⟨g, o + k * 2, none⟩) hg (Nat.ne_of_lt hg)).trans ca
        | 1, hj => cases hj; exact (kk.cell (p := ⟨g, o + k * 2 + 1, none⟩) hg (Nat.ne_of_lt hg)).trans cb
        | j + 2, hj => cases hj
      have ha' : ∀ w', Kept w.heap.size w.heap.size w w' → Hs w' a f.1 := fun w' kk => ha.kept kk
      have hb' : ∀ w', Kept w.heap.size w.heap.size w w' → Hs w' b f.2 := fun w' kk => hb.kept kk
      have hout : ∀ w', Kept wr.heap.size wr.heap.size wr w' → Kept w.heap.size w.heap.size w w' := fun w' kk => hK.out.trans (kk.mono hbase (fun i hi _ => by omega))
      have hpa : ∀ w', Kept wr.heap.size wr.heap.size wr w' → Calls Try.prog 65 #[a] w' fun e w2 => ∃ u, e = .returned u ∧ Own w2 w'.heap.size u f.1 ∧ Kept w'.heap.size w'.heap.size w' w2 := fun w' kk => plain_calls f.1 a w' (ha' w' (hout w' kk)) (by omega)
      have hpb : ∀ w', Kept wr.heap.size wr.heap.size wr w' → Calls Try.prog 65 #[b] w' fun e w2 => ∃ u, e = .returned u ∧ Own w2 w'.heap.size u f.2 ∧ Kept w'.heap.size w'.heap.size w' w2 := fun w' kk => plain_calls f.2 b w' (hb' w' (hout w' kk)) (by omega)
      have hrn : ∀ (w' : World) (ua ub : Value), Kept wr.heap.size wr.heap.size wr w' → Own w' 0 ua f.1 → Own w' 0 ub f.2 → Calls Try.prog 46 #[u6, .agg #[ua, ub]] w' fun e w2 => ∃ u, e = .returned (.tuple #[u, .int .i64 E]) ∧ OwnF w2 w.heap.size u (Bk.note M f) ∧ Kept w.heap.size w.heap.size w' w2 ∧ StayF w' w2 := fun w' ua ub kk h1 h2 => by
        rw [hE]
        exact refnote_calls M f u6 ua ub w' w.heap.size (hO.out.kept kk (Nat.le_refl _)) (Nat.le_trans hbase kk.size) h1 h2 (by omega) (fun g hg => by have := hns g hg; omega) (by omega) (by omega)
      have hbn : ∀ w', (∃ n, n ≤ 62 * k ∧ ∃ S, Bok w' w.heap.size bb M n (fun _ => none) S) → Kept w.heap.size w.heap.size w w' → Calls Try.prog 64 #[.pointer (some ⟨bb, 0, none⟩), .agg #[a, b]] w' fun e w2 => e = .returned (.int .i64 E) ∧ (∃ n, n ≤ 62 * (k + 1) ∧ ∃ S, Bok w2 w.heap.size bb (Bk.note M f) n (fun _ => none) S) ∧ BkFr w.heap.size w' w2 := fun w' ⟨n, hn, S, hB⟩ kk => by
        rw [hE]
        refine (note_calls w.heap.size bb n M (fun _ => none) S f a b w' hB kk.size (ha' w' kk) (hb' w' kk) wa wb (fun w2 h => ha' w2 (kk.trans h.kept)) (by omega) (by omega) (fun g hg => by have := hns g hg; omega) (by omega) (by omega)).mono ?_
        rintro e w2 ⟨h1, ⟨n', hn', S', hB'⟩, h2⟩
        exact ⟨h1, ⟨n', by omega, S', hB'⟩, h2⟩
      have hln2 : ∀ w', (∃ n, n ≤ 62 * (k + 1) ∧ ∃ S, Bok w' w.heap.size bb (Bk.note M f) n (fun _ => none) S) → Calls Try.prog 47 #[.pointer (some ⟨bb, 0, none⟩)] w' fun e w2 => e = .returned (.int .i64 ((Bk.note M f).length : Nat)) ∧ w2 = w' := fun w' ⟨n, _, S, hB⟩ => len_calls _ _ _ _ _ _ _ hB
      have hia : (Try.prog.info? 104).map (·.size) = some [a, b].length := notedFactInfo
      have hbd : ((Bk.note M f).length : Int) < 1073741824 := by have := bknote_length M f; omega
      subst ea
      subst eb
      have HCA := Lib.hid hcaW
      have HCB := Lib.hid hcbW
      have HROW := Lib.hid hrow
      have HPA := Lib.hid hpa
      have HPB := Lib.hid hpb
      have HRN := Lib.hid hrn
      have HBN := Lib.hid hbn
      have HLN := Lib.hid hln2
      have HIA := Lib.hid hia
      have HNM := Lib.hid hnm
      have HOUT := Lib.hid hout
      have HBASE := Lib.hid hbase
      have hk60 : k < 60 := by omega
      have d1 := hcaW wr.drew (Kept.refl _ _ _).drew
      have d2 := hcbW wr.drew (Kept.refl _ _ _).drew
      clear hcaW hcbW hrow hpa hpb hrn hbn hln2 hia hnm hout hbase ha' hb' ha hb hz1 hz2 hnl hns hE ca cb
      go_upto_region 7 with fail
      go_region_with (first
        | (go_at_call 65; refine (HPB.out _ K7).mono ?_; rintro e w8 ⟨ub, rfl, o8, k8⟩; obtain ⟨zp1, vad, vg, vo, vc, rfl, zp2⟩ := id o8.hs; clear zp1 zp2; have O8 := Lib.hid o8; have KK8 := Lib.hid k8; clear o8; have K8 : Kept wr.heap.size wr.heap.size wr w8 := K7.trans (k8.mono K7.size (fun i hi _ => by have := K7.size; omega)))
        | (go_at_call 65; refine (HPA.out _ (Kept.refl _ _ _).drew).mono ?_; rintro e w7 ⟨ua, rfl, o7, k7⟩; obtain ⟨zp1, uad, ug, uo, uc, rfl, zp2⟩ := id o7.hs; clear zp1 zp2; have O7 := Lib.hid o7; clear o7; have K7 : Kept wr.heap.size wr.heap.size wr w7 := (Kept.refl _ _ _).drew.trans k7; have c7 := HCB.out w7 K7; have c7a := HCA.out w7 K7)
        | (go_at_call 46; refine (HRN.out _ _ _ K8 ((O7.out.kept KK8.out (Nat.le_refl _)).mono (Nat.zero_le _)) (O8.out.mono (Nat.zero_le _))).mono ?_; rintro e w10 ⟨u', rfl, o10, k10, s10⟩; have O10 := Lib.hid o10; have K10 := Lib.hid k10; have S10 := Lib.hid s10; clear o10 k10 s10))
      all_goals
        have hK10 : Kept w.heap.size w.heap.size w w10 := (HOUT.out _ K8).trans K10.out
        have hB10 : ∃ n, n ≤ 62 * k ∧ ∃ S, Bok w10 w.heap.size bb M n (fun _ => none) S := by
          obtain ⟨n, hn, S, hB⟩ := hBk.out
          exact ⟨n, hn, S, (hB.kept K8).stayF S10.out⟩
        obtain ⟨fad, fg, fo, fc, rfl, zp⟩ := id O10.out.fs
        clear zp
        have n1 := HBN.out w10 hB10 hK10
        have r1 := HROW.out w10 hK10
        have HK10 := Lib.hid hK10
        have N1 := Lib.hid n1
        have R1 := Lib.hid r1
        clear hK10 hB10 n1 r1 c7 c7a d1 d2 K7 K8 k7 k8
        go_upto_region 9 with fail
        refine wp_region_lit ?_
        refine BigFrame.wpList_want ?hwa0 ?_
        case hwa0 => kernel_rfl
        intro K hK
        go_simp
        refine hK _ _ ?_
        clear hK K
        refine BigFrame.wpList_want ?hwa1 ?_
        case hwa1 => kernel_rfl
        intro K hK
        go_simp
        refine hK _ _ ?_
        clear hK K
        refine BigFrame.wpList_want ?hwa2 ?_
        case hwa2 => kernel_rfl
        intro K hK
        go_simp
        refine hK _ _ ?_
        clear hK K
        refine BigFrame.wpList_want ?hwa3 ?_
        case hwa3 => kernel_rfl
        intro K hK
        go_simp
        refine hK _ _ ?_
        clear hK K
        refine BigFrame.wpList_want ?hwa4 ?_
        case hwa4 => kernel_rfl
        intro K hK
        go_simp
        refine hK _ _ ?_
        clear hK K
        refine BigFrame.wpList_want ?hwa5 ?_
        case hwa5 => kernel_rfl
        intro K hK
        go_simp
        refine hK _ _ ?_
        clear hK K
        refine wpList_load_at_g ?hwa6 104 _ rfl g (o + k * 2) rfl [.slice aad f.1.length ac, .slice bad f.2.length bc] _ R1.out Try.underlying104 rfl HIA.out ?_
        case hwa6 => kernel_rfl
        simp only [Act.put, List.setIfInBounds_toArray, List.set_cons_zero, List.set_cons_succ]
        refine BigFrame.wpList_want ?hwa7 ?_
        case hwa7 => kernel_rfl
        intro K hK
        go_simp
        go_at_call 64; refine N1.out.mono ?_; rintro e w11 ⟨rfl, hB11, f11⟩; have HB11 := Lib.hid hB11; have F11 := Lib.hid f11; clear hB11 f11
        refine hK _ _ ?_
        clear hK K
        refine BigFrame.wpList_want ?hwa8 ?_
        case hwa8 => kernel_rfl
        intro K hK
        go_simp
        refine hK _ _ ?_
        clear hK K
        refine BigFrame.wpList_want ?hwa9 ?_
        case hwa9 => kernel_rfl
        intro K hK
        go_simp
        refine hK _ _ ?_
        clear hK K
        refine BigFrame.wpList_want ?hwb0 ?_
        case hwb0 => kernel_rfl
        intro K hK
        go_simp
        refine hK _ _ ?_
        clear hK K
        refine BigFrame.wpList_want ?hwb1 ?_
        case hwb1 => kernel_rfl
        intro K hK
        go_simp
        refine hK _ _ ?_
        clear hK K
        refine BigFrame.wpList_want ?hwb2 ?_
        case hwb2 => kernel_rfl
        intro K hK
        go_simp
        refine hK _ _ ?_
        clear hK K
        refine BigFrame.wpList_want ?hwb3 ?_
        case hwb3 => kernel_rfl
        intro K hK
        go_simp
        go_at_call 47; refine (HLN.out w11 HB11.out).mono ?_; rintro e w12 ⟨rfl, rfl⟩
        refine hK _ _ ?_
        clear hK K
        refine BigFrame.wpList_want ?hwb4 ?_
        case hwb4 => kernel_rfl
        intro K hK
        go_simp
        refine hK _ _ ?_
        clear hK K
        refine BigFrame.wpList_want ?hwb5 ?_
        case hwb5 => kernel_rfl
        intro K hK
        go_simp
        refine hK _ _ ?_
        clear hK K
        refine BigFrame.wpList_want ?hwb6 ?_
        case hwb6 => kernel_rfl
        intro K hK
        go_simp
        refine hK _ _ ?_
        clear hK K
        refine BigFrame.wpList_want ?hwb7 ?_
        case hwb7 => kernel_rfl
        intro K hK
        go_simp
        refine hK _ _ ?_
        clear hK K
        refine BigFrame.wpList_want ?hwb8 ?_
        case hwb8 => kernel_rfl
        intro K hK
        go_simp
        refine hK _ _ ?_
        clear hK K
        have hf11 := F11.out
        have hE1 : OwnF w12 w.heap.size (.slice fad (Bk.note M f).length fc) (notes (L.take (k + 1))) := by rw [HNM.out]; exact O10.out.bk hf11
        have hE2 := HB11.out
        rw [← HNM.out] at hE2
        have HE1 := Lib.hid hE1
        have HE2 := Lib.hid hE2
        have HE3 := Lib.hid (HK10.out.trans hf11.kept)
        clear hE1 hE2 hf11
        go_wp2
        exact ⟨⟨k + 1, by omega, by rw [Int.natCast_add]; rfl, rfl, HE2, HE1, HE3⟩, by simp only [RowKit.intOf]; omega⟩
    · obtain rfl : k = L.length := by omega
      have hd3 : decide ((L.length : Int) < (L.length : Int)) = false := decide_eq_false (by omega)
      have hB2 := hBk.out
      have hO2 := hO.out
      rw [List.take_of_length_le (Nat.le_refl _)] at hB2 hO2
      have HB2 := Lib.hid hB2
      have HO2 := Lib.hid hO2
      clear hB2 hO2
      go_wp2
      refine bodyPost_ret (results_tmp3 rfl _ _ _) rfl ?_
      exact ⟨bb, _, rfl, HB2.out, HO2.out, hK.out⟩

end Go.Proofs.Ytdedookpdnbdiaa

namespace Go.Proofs.Ytdedookpdnbdiaa
open Go.RowKit Go.Lib

theorem outs_le (b : Nat) : ∀ (fs : List (List (List UInt8) × List (List UInt8))), (∀ f ∈ fs, f.2.length ≤ b) → (Bk.outs fs).length ≤ fs.length * b
  | [], _ => by simp [Bk.outs]
  | f :: fs, h => by
    have h1 := outs_le b fs (fun g hg => h g (by simp [hg]))
    have h2 := h f (by simp)
    simp only [Bk.outs, List.flatMap_cons, List.length_append, List.length_cons] at h1 ⊢
    rw [Nat.add_mul]
    omega
theorem is_length {fs : List (List (List UInt8) × List (List UInt8))} {fr M : List (List UInt8)} (h : Bk.Is fs fr M) : M.length ≤ fr.length + (Bk.outs fs).length := by
  have hn : M.Nodup := h.rising.imp fun {a b} hab e => by
    subst e
    rw [Bk.less_irrefl] at hab
    cases hab
  have := Bk.nodup_le M (fr ++ Bk.outs fs) hn (fun x hx => Bk.cl_mem ((h.mem x).1 hx))
  rwa [List.length_append] at this
/-- What is few keeps its bounds when it is noted. -/
theorem few_notes {L : List (List (List UInt8) × List (List UInt8))} (h : Few L) : (notes L).length ≤ 60 ∧ (Bk.outs (notes L)).length ≤ 3600 ∧ ∀ f ∈ notes L, f.1.length < 1000000 ∧ f.2.length < 1000000 := by
  have h1 := notes_length L L.length (Nat.le_refl _)
  have h2 := notes_mem L L.length (Nat.le_refl _)
  rw [List.take_of_length_le (Nat.le_refl _)] at h1 h2
  have h3 := outs_le 60 (notes L) (fun f hf => (h.2 f (h2 f hf)).2)
  have h4 := h.1
  refine ⟨by omega, ?_, fun f hf => ?_⟩
  · have : (notes L).length * 60 ≤ 60 * 60 := Nat.mul_le_mul_right 60 (by omega)
    omega
  · have := h.2 f (h2 f hf)
    omega

theorem Bok.low {w w' : World} {base bb n : Nat} {fs : List (List (List UInt8) × List (List UInt8))} {nmf : Lit → Option Value} (h : ∃ S, Bok w base bb fs n nmf S) (k : Kept w.heap.size w.heap.size w w') : ∃ S, Bok w' base bb fs n nmf S := by
  obtain ⟨S, hB⟩ := h
  exact ⟨S, hB.kept k⟩
theorem alikeB_refl (L : List (List UInt8)) : alikeB L L = true := by unfold alikeB; exact beq_self_eq_true L

end Go.Proofs.Ytdedookpdnbdiaa
