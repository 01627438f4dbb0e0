/-
 PprRefPack; PprPack; PprSame; PprTakesLaw; PprPlay: several texts in one.
-/
import Derived.Test.YtanfnafiofkihaaQA
import Derived.Test.YtanfnafiofkihaaGV
import Derived.Test.YtanfnafiofkihaaGS
import Derived.Test.YtanfnafiofkihaaGD
import Derived.Test.YtanfnafiofkihaaGA

namespace Go.Proofs.Ytanfnafiofkihaa
open Go.RowKit Go.Lib

namespace Pp
def pack1 (s : Sd) : List UInt8 := Wm.enc s.level ++ Wm.enc s.place ++ s.self
def packs : List Sd → List UInt8
 | [] => []
 | s :: L => pack1 s ++ packs L
def pack (L : List Sd) : List UInt8 := Wm.enc L.length ++ packs L
end Pp

end Go.Proofs.Ytanfnafiofkihaa

namespace Go.Proofs.Ytanfnafiofkihaa
open Go.RowKit Go.Lib

end Go.Proofs.Ytanfnafiofkihaa

namespace Go.Proofs.Ytanfnafiofkihaa
open Go.RowKit Go.Lib

end Go.Proofs.Ytanfnafiofkihaa

namespace Go.Proofs.Ytanfnafiofkihaa
open Go.RowKit Go.Lib
namespace Pp
end Pp
/-- A row's seeds lie apart from one of the document's. -/
theorem Ss.apart {w : World} {v : Value} {L : List Sd} {mb : Nat} {l : List UInt8} {n : Nat} {T : Value} {t : TypeId} (h : Ss w v L) (hl : l.length = 32) (h32 : ∀ s ∈ L, s.self.length = 32) (hm : w.heap[mb]? = some (.cells (refRow l n T) t (0, 0))) (j : Nat) (u : Value) : Ss (w.setCell ⟨mb, j, none⟩ u) v L := by
 obtain ⟨ad, g, o, c, rfl, h1, h2⟩ := h
 refine ⟨ad, g, o, c, rfl, fun i hi => ?_, h2⟩
 obtain ⟨a, b, d⟩ := h1 i hi
 have hne : g ≠ mb := by
  rintro rfl
  have e0 := d 0 (.int .i64 (L[i].level : Int)) (by simp [Pp.cells])
  have hlast : (Pp.cells L[i])[33]? ≠ none := by
   have := h32 _ (List.getElem_mem hi)
   rw [List.getElem?_eq_getElem (by simp [Pp.cells, bcells_length, this])]
   exact fun h => nomatch h
  cases hq : (Pp.cells L[i])[33]? with
  | none => exact hlast hq
  | some q =>
   have e1 := d 33 q hq
   have hs := refRow_size hl n T
   rw [cell_of_row w g _ _ _ _ hm] at e0 e1
   have hlt : o + i * 34 + 33 < 34 := by
    rcases Nat.lt_or_ge (o + i * 34 + 33) 34 with h | h
    ·exact h
    ·rw [Array.getElem?_eq_none (by omega)] at e1
     cases e1
   have hz : o + i * 34 = 0 := by omega
   rw [hz] at e0
   cases l with
   | nil => cases hl
   | cons x l => simp [refRow, bcells] at e0
 refine ⟨a, by simpa [World.setCell] using b, fun k x hk => ?_⟩
 rw [World.cell?_of_block (w := w) (setCell_other w mb j u g hne)]
 exact d k x hk
theorem RowIs.apart {w : World} {rb bits : Nat} {sl : Value} {L : List Sd} {mb : Nat} {l : List UInt8} {n : Nat} {T : Value} {t : TypeId} (h : RowIs w rb bits sl L) (hne : rb ≠ mb) (hl : l.length = 32) (h32 : ∀ s ∈ L, s.self.length = 32) (hm : w.heap[mb]? = some (.cells (refRow l n T) t (0, 0))) (j : Nat) (u : Value) : RowIs (w.setCell ⟨mb, j, none⟩ u) rb bits sl L :=
 ⟨(setCell_other w mb j u rb hne).trans h.1, h.2.apart hl h32 hm j u⟩
theorem refRow_set {l : List UInt8} (hl : l.length = 32) (n : Nat) (T T' : Value) : ((bcells l ++ [.int .i64 (n : Int), T]).set 33 T').toArray = refRow l n T' := by
 rw [refRow, List.set_append_right _ _ (by rw [bcells_length, hl]; decide), bcells_length, hl]
 rfl

end Go.Proofs.Ytanfnafiofkihaa

namespace Go.Proofs.Ytanfnafiofkihaa
open Go.RowKit Go.Lib
namespace Pp

theorem path_join (p b : Nat) : ∀ (a : Nat) (l : List UInt8), path p b (path (p / 2 ^ b) a l) = path p (a + b) l
 | 0, l => by simp [path]
 | a + 1, l => by
  have e : p / 2 ^ b / 2 ^ a = p / 2 ^ (a + b) := by rw [Nat.div_div_eq_div_mul, ← Nat.pow_add, Nat.add_comm]
  rw [show a + 1 + b = (a + b) + 1 by omega, path, path, e, path_join p b a]
theorem low_of (n : Nat) (P : List Nat) (l : List UInt8) : ∀ (k : Nat) (s : Sd), Of l s → ∀ x ∈ low n P k s, Of l x
 | k, s, hs, x, hx => by
  by_cases hw : Whole n P s
  ·rw [low_whole hw, List.mem_singleton] at hx
   rw [hx]; exact hs
  ·cases k with
   | zero => unfold low at hx; rw [if_neg hw] at hx; cases hx
   | succ k =>
    unfold low at hx
    rw [if_neg hw] at hx
    rcases List.mem_append.1 hx with h | h
    ·exact low_of n P l k _ hs.left x h
    ·exact low_of n P l k _ hs.right x h
/-- What a call at a place answers where these places are taken, and what is taken behind Take. -/
inductive Out (n : Nat) (P : List Nat) (l : List UInt8) (pl : Int) : List UInt8 → Int → List Nat → Prop
 | out : (pl < 0 ∨ ((2 ^ n : Nat) : Int) ≤ pl) → Out n P l pl z32 1 P
 | gone (p : Nat) : pl = (p : Int) → p < 2 ^ n → p ∈ P → Out n P l pl z32 10 P
 | fresh (p : Nat) : pl = (p : Int) → p < 2 ^ n → p ∉ P → Out n P l pl (key (path p n l)) 0 (P ++ [p])
theorem out_took {n : Nat} {P : List Nat} {l : List UInt8} (hl : l.length = 32) {pl : Int} {k k' : List UInt8} {er er' : Int} {P' : List Nat} {L' : List Sd} (h : Out n P l pl k er P') (ht : Took n (low n P n ⟨0, 0, l⟩) pl L' k' er') : L' = low n P' n ⟨0, 0, l⟩ ∧ k' = k ∧ er' = er := by
 have hG := (low_good n P n ⟨0, 0, l⟩ ⟨Nat.zero_le _, Nat.one_pos, hl⟩ (Nat.zero_add _)).1
 cases h with
 | out h =>
  cases ht with
  | out h2 => exact ⟨rfl, rfl, rfl⟩
  | gone q e h2 => omega
  | took A B s q e h2 => omega
 | gone p e hp hm =>
  cases ht with
  | out h2 => omega
  | gone q e2 h2 => exact ⟨rfl, rfl, rfl⟩
  | took A B s q e2 h2 h4 h5 =>
   obtain rfl : p = q := by omega
   exact absurd h5 (low_none n P p hm n _ s (by rw [h4]; simp))
 | fresh p e hp hm =>
  subst e
  have hh : Has n ⟨0, 0, l⟩ p := ⟨by simp [start], by simpa [stop] using hp⟩
  obtain ⟨h1, h2⟩ := ht.low rfl hG hh hp hm
  refine ⟨h2, ?_, h1⟩
  cases ht with
  | out h => omega
  | gone q e1 _ h4 =>
   obtain rfl : p = q := by omega
   obtain ⟨A, x, B, e2, e3, _⟩ := low_took n P p hm n ⟨0, 0, l⟩ (Nat.zero_add _) hh
   exact absurd e3 (h4 x (by rw [e2]; simp))
  | took A B s q e1 _ h4 h5 =>
   obtain rfl : p = q := by omega
   have hs := hG.1 s (by rw [h4]; simp)
   have ho := low_of n P l n ⟨0, 0, l⟩ rfl s (by rw [h4]; simp)
   have hd := has_div.1 h5
   rw [leaf_path n p (n - s.level) s (by have := hs.1; omega) h5.1 h5.2, ho, ← hd, path_join, show s.level + (n - s.level) = n by have := hs.1; omega]
theorem low_len32 (n : Nat) (hn : n ≤ 32) (P : List Nat) (hP : P.length ≤ 1000) (l : List UInt8) : (low n P n ⟨0, 0, l⟩).length < 100000 := by
 have h := low_length n P n ⟨0, 0, l⟩ (Nat.zero_add _)
 have h2 := Nat.mul_le_mul hP hn
 omega
end Pp

theorem OwnI.gones {w : World} {base : Nat} {v : Value} {P : List Nat} (h : OwnI w base v P) : Gones w v P := by
 obtain ⟨ad, g, c, rfl, h1⟩ := h.shape
 refine ⟨ad, c, g, 0, by rw [List.length_map], fun i hi => ?_⟩
 have hi' : i < P.length := by simpa using hi
 obtain ⟨rfl, hg⟩ := h1 (fun e => by rw [e] at hi'; exact absurd hi' (Nat.not_lt_zero _))
 refine ⟨rfl, hg, ?_⟩
 rw [h.cell i hi', List.getElem_map]
 rfl
theorem RowIs.grown {w w' : World} {row : Option Nat} {rb bits : Nat} {sl : Value} {L : List Sd} (h : RowIs w rb bits sl L) (hg : w.grownBy w' row) (h1 : row ≠ some rb) (h2 : L ≠ [] → ∀ k, sl.ownBlock = some k → row ≠ some k) : RowIs w' rb bits sl L := by
 refine ⟨(hg.block rb (lt_of_block h.1) (Ne.symm h1)).trans h.1, ?_⟩
 obtain ⟨ad, g, o, c, rfl, h3, h4⟩ := h.2
 refine ⟨ad, g, o, c, rfl, fun i hi => ?_, h4⟩
 obtain ⟨rfl, a2, a3⟩ := h3 i hi
 have hne := h2 (fun e => by rw [e] at hi; exact absurd hi (Nat.not_lt_zero _)) g rfl
 refine ⟨rfl, Nat.lt_of_lt_of_le a2 hg.size, fun j u hu => ?_⟩
 rw [World.cell?_of_block (w := w) (hg.block g a2 (Ne.symm hne))]
 exact a3 j u hu

/-- The memory of a play: the row, the document's row, what is taken. -/
structure Pl (w0 wr : World) (l : List UInt8) (n rb mb : Nat) (R P : List Nat) (T sl : Value) : Prop where
 row : RowIs wr rb n sl (Pp.low n R n ⟨0, 0, l⟩)
 m : wr.heap[mb]? = some (.cells (refRow l n T) 60 (0, 0))
 own : OwnI wr (mb + 1) T P
 apart : Pp.low n R n ⟨0, 0, l⟩ ≠ [] → ∀ k, sl.ownBlock = some k → T.ownBlock ≠ some k
 kept : Kept w0.heap.size w0.heap.size w0 wr
 tab : Tab wr
 lt : rb < mb
 low : w0.heap.size ≤ rb
 pos : 0 < w0.heap.size
variable {w0 wr w' : World} {l : List UInt8} {n rb mb : Nat} {R P : List Nat} {T sl : Value}
theorem Pl.step (h : Pl w0 wr l n rb mb R P T sl) (k : Kept wr.heap.size wr.heap.size wr w') : Pl w0 w' l n rb mb R P T sl where
 row := h.row.kept k
 m := (k.block mb (lt_of_block h.m) (Nat.ne_of_lt (lt_of_block h.m))).trans h.m
 own := h.own.stay (fun b hb => by have := (h.own.lt b hb).2; exact k.block b this (Nat.ne_of_lt this))
 apart := h.apart
 kept := h.kept.next1 k
 tab := h.tab.kept k h.tab.lt h.tab.lt
 lt := h.lt
 low := h.low
 pos := h.pos
theorem Pl.take {R' : List Nat} {sl' : Value} (h : Pl w0 wr l n rb mb R P T sl) (hR : RowIs w' rb n sl' (Pp.low n R' n ⟨0, 0, l⟩)) (k : Kept wr.heap.size rb wr w') (hn : Near wr sl sl') (hne : Pp.low n R' n ⟨0, 0, l⟩ ≠ [] → Pp.low n R n ⟨0, 0, l⟩ ≠ []) : Pl w0 w' l n rb mb R' P T sl' where
 row := hR
 m := (k.block mb (lt_of_block h.m) (Nat.ne_of_gt h.lt)).trans h.m
 own := h.own.stay (fun b hb => by
  have h1 := h.own.lt b hb
  exact k.block b h1.2 (by have := h.lt; omega))
 apart := fun hx b hb ht => by
  rcases hn b hb with h1 | h1
  ·exact h.apart (hne hx) b h1 ht
  ·have := (h.own.lt b ht).2
   omega
 kept := h.kept.row k h.low
 tab := h.tab.kept k h.tab.lt (by have := h.low; have := h.pos; omega)
 lt := h.lt
 low := h.low
 pos := h.pos
/-- A place more that is taken. -/
theorem Pl.more {p : Nat} {T' : Value} (h : Pl w0 wr l n rb mb R P T sl) (hl : l.length = 32) (h32 : ∀ s ∈ Pp.low n R n ⟨0, 0, l⟩, s.self.length = 32) (ho : OwnI w' (mb + 1) T' (P ++ [p])) (hg : wr.grownBy w' T.ownBlock) (hb : T'.ownBlock = T.ownBlock ∨ T'.ownBlock = some wr.heap.size) : Pl w0 (w'.setCell ⟨mb, 33, none⟩ T') l n rb mb R (P ++ [p]) T' sl := by
 have hTne : ∀ b, b ≤ mb → some b ≠ T.ownBlock := fun b hbm e => by have := (h.own.lt b e.symm).1; omega
 have hm := (hg.block mb (lt_of_block h.m) (hTne mb (Nat.le_refl _))).trans h.m
 have hrow := h.row.grown hg (fun e => hTne rb (Nat.le_of_lt h.lt) e.symm) h.apart
 have hmlt := lt_of_block h.m
 refine ⟨hrow.apart (Nat.ne_of_lt h.lt) hl h32 hm 33 T', ?_, ho.stay (fun b hb2 => setCell_other _ _ _ _ _ (by have := (ho.lt b hb2).1; omega)), fun hne b hb2 ht => ?_, ?_, ?_, h.lt, h.low, h.pos⟩
 ·rw [refRow] at hm
  rw [cells_set hm 33 T', refRow_set hl]
 ·rcases hb with hb | hb
  ·rw [hb] at ht
   exact h.apart hne b hb2 ht
  ·rw [hb] at ht
   obtain ⟨ad, g, o, c, rfl, h3, _⟩ := h.row.2
   obtain ⟨rfl, h4, _⟩ := h3 0 (List.length_pos_iff.2 hne)
   cases hb2
   cases ht
   exact absurd h4 (Nat.lt_irrefl _)
 ·refine h.kept.trans (Kept.set ⟨hg.os, hg.tape, hg.output, hg.size, fun k hk _ => hg.block k (Nat.lt_of_lt_of_le hk h.kept.size) (hTne k (by have := h.low; have := h.lt; omega))⟩ (.inr (by have := h.low; have := h.lt; omega)) 33 T')
 ·refine (h.tab.same (hg.block 0 h.tab.lt (hTne 0 (Nat.zero_le _)))).same (setCell_other _ _ _ _ _ (by have := h.lt; omega))

set_option maxRecDepth 100000 in
set_option maxHeartbeats 3200000 in
theorem refgone_calls (l : List UInt8) (hl : l.length = 32) (n : Nat) (T : Value) (L : List Nat) (hLn : L.length ≤ 1000) (pl : Nat) (hpl : pl < 4294967296) (w : World) (hT : Gones w T L) :
  Calls Try.prog 26 #[.agg (refRow l n T), .int .i64 (pl : Int)] w fun e w' => e = .returned (.bool (decide (pl ∈ L))) ∧ Kept w.heap.size w.heap.size w w' := by
 have htk := fun (w2 : World) (b : Nat) h => refRow_taken (w := w2) (b := b) (t := 60) hl (bits := n) (T := T) h
 generalize refRow l n T = RD at htk ⊢
 have hk0 : Kept w.heap.size w.heap.size w (w.alloc (.cells RD 60)) := (Kept.refl _ _ _).alloc (Nat.le_refl _) _
 have hT1 := hT.kept hk0 (Nat.le_refl _)
 have hc1 := htk _ _ (heap_new w (.cells RD 60))
 have K := Lib.hid hk0
 obtain ⟨ad, c, g, o, rfl, hc⟩ := hT1
 rw [List.length_map] at hc1
 obtain ⟨ln, hln⟩ : ∃ ln, ln = L.length := ⟨_, rfl⟩
 rw [← hln] at hc1
 have HC := Lib.hid (fun i (hi : i < L.length) => hc i (by rw [List.length_map]; exact hi))
 have HLN := Lib.hid hln
 have hln9 : (ln : Int) ≤ 1000 := by omega
 clear hk0 htk hc hT hln hLn hl
 go_enter Try.func26, Try.ntmps26
 go_upto_region 1 with fail
 generalize w.alloc (.cells RD 60) = w1 at K hc1 HC ⊢
 go_wp2_with fail
 obtain ⟨Q, hQ⟩ : ∃ Q : Nat → Prop, ∀ i, Q i ↔ ∀ j (hj : j < L.length), j < i → L[j] ≠ pl := ⟨_, fun _ => Iff.rfl⟩
 have HQI := Lib.hid hQ
 clear hQ
 go_loopw [5] (fun s8 wr => ∃ i : Nat, s8 = .int .i64 (i : Int) ∧ Hid (i ≤ ln) ∧ Hid (Q i) ∧ wr = w1) (fun s8 _ => ln - (RowKit.intOf s8).toNat)
 case atStart => exact ⟨0, rfl, Lib.hid (Nat.zero_le _), Lib.hid ((HQI.out 0).2 (fun j _ h => absurd h (Nat.not_lt_zero _))), rfl⟩
 case round =>
  obtain ⟨i, rfl, hi, HALL, hw⟩ := hrel
  subst wr
  by_cases hlt : i < ln
  ·have hiL : i < L.length := by rw [← HLN.out]; exact hlt
   obtain ⟨had, hg, hx⟩ := HC.out i hiL
   subst had
   rw [List.getElem_map] at hx
   have hlti : (i : Int) < (ln : Int) := by omega
   have hi0 : ¬ (i : Int) < 0 := by omega
   obtain ⟨t, ht⟩ : ∃ t, t = L[i] := ⟨_, rfl⟩
   rw [← ht] at hx
   replace hx : w1.cell? ⟨g, o + i, none⟩ = some (.int .i64 (t : Int)) := hx
   have HT := Lib.hid (show ∀ h : i < L.length, t = L[i]'h from fun _ => ht)
   clear ht
   have HLT := Lib.hid hlt
   have HIL := Lib.hid hiL
   by_cases heq : t = pl
   ·subst heq
    clear hlt hi hg hiL
    go_wp2
    go_ret
    have hd : decide (t ∈ L) = true := decide_eq_true (by rw [HT.out HIL.out]; exact List.getElem_mem _)
    exact ⟨by rw [hd]; rfl, K.out⟩
   ·have hb : ((t : Int) == (pl : Int)) = false := by
     rw [beq_eq_false_iff_ne]
     omega
    have HEQ := Lib.hid heq
    clear hlt heq hi hg hiL
    go_upto_region 4 with fail
    refine wp_region_lit ?_
    refine @BigFrame.wpList_want _ _ _ _ _ _ _ ?hw4001 ?_
    case hw4001 => kernel_rfl
    intro K hK
    go_simp
    refine hK _ _ ?_
    clear hK K
    refine @BigFrame.wpList_want _ _ _ _ _ _ _ ?hw4002 ?_
    case hw4002 => kernel_rfl
    intro K hK
    go_simp
    refine hK _ _ ?_
    clear hK K
    refine @BigFrame.wpList_want _ _ _ _ _ _ _ ?hw4003 ?_
    case hw4003 => kernel_rfl
    intro K hK
    go_simp
    refine hK _ _ ?_
    clear hK K
    refine @BigFrame.wpList_want _ _ _ _ _ _ _ ?hw4004 ?_
    case hw4004 => kernel_rfl
    intro K hK
    go_simp
    refine hK _ _ ?_
    clear hK K
    refine @BigFrame.wpList_want _ _ _ _ _ _ _ ?hw4005 ?_
    case hw4005 => kernel_rfl
    intro K hK
    go_simp
    refine hK _ _ ?_
    clear hK K
    refine @BigFrame.wpList_want _ _ _ _ _ _ _ ?hw4006 ?_
    case hw4006 => kernel_rfl
    intro K hK
    go_simp
    refine hK _ _ ?_
    clear hK K
    refine @BigFrame.wpList_want _ _ _ _ _ _ _ ?hw4007 ?_
    case hw4007 => kernel_rfl
    intro K hK
    go_simp
    refine hK _ _ ?_
    clear hK K
    refine wpList_nil ?_
    clear hb
    go_wp2
    go_roundw
    case rel => exact ⟨i + 1, by simp, Lib.hid HLT.out, Lib.hid ((HQI.out _).2 fun j hj hji => by
     rcases Nat.lt_or_ge j i with h | h
     ·exact (HQI.out _).1 HALL.out j hj h
     ·obtain rfl : j = i := by omega
      rw [← HT.out hj]
      exact HEQ.out), trivial⟩
    case measure => have := HLT.out; simp [RowKit.intOf]; omega
  ·have hnl : ¬ (i : Int) < (ln : Int) := by omega
   have HI := Lib.hid (show i = ln by have := hi.out; omega)
   clear hlt hi
   go_wp2
   go_ret
   have hd : decide (pl ∈ L) = false := decide_eq_false (fun ht => by
    obtain ⟨j, hj, e⟩ := List.mem_iff_getElem.1 ht
    exact (HQI.out _).1 HALL.out j hj (by rw [HI.out, HLN.out]; exact hj) e)
   exact ⟨by rw [hd]; rfl, K.out⟩

/-- The slice v holds these calls. -/
def Cls (w : World) (v : Value) (L : List (Int × Int)) : Prop := ∃ ad c g o, v = .slice ad L.length c ∧ ∀ i (hi : i < L.length), ad = some ⟨g, o, none⟩ ∧ g < w.heap.size ∧ w.cell? ⟨g, o + i * 2, none⟩ = some (.int .u8 L[i].1) ∧ w.cell? ⟨g, o + i * 2 + 1, none⟩ = some (.int .i64 L[i].2) ∧ 0 ≤ L[i].1 ∧ L[i].1 ≤ 255
theorem callCells : Try.prog.cellsOf 62 = 2 := by kernel_rfl
theorem intCells1 : Try.prog.cellsOf 3 = 1 := by kernel_rfl
theorem u8Cells1 : Try.prog.cellsOf 5 = 1 := by kernel_rfl
open Go.ChangeShapes Go.WideShapes Go.ChangeAt Go.Deep in
theorem open_plays {H : Type} {enc : TypeId × Value → H} {w : World} {base : Nat} {spare : Nat → Bool} {held : Bool} {v : Value} {d : DataW H} {p : List MemPlace} (hv : ∃ ao len cap, v = .slice ao len cap) (h : DataW.Trod enc Try.prog w base spare held 53 v d p) : ∃ L, Cls w v L := by
 obtain ⟨ao, len, cap, rfl⟩ := hv
 obtain ⟨fuel, hf⟩ := h
 rcases open_slice Try.underlying53 hf with hc | ⟨a, len', cap', hc, n, EE, RR, hEE, hel⟩
 ·simp [Value.cells] at hc
  obtain ⟨rfl, rfl, rfl⟩ := hc
  exact ⟨[], none, 0, 0, 0, rfl, fun i hi => absurd hi (Nat.not_lt_zero _)⟩
 ·simp [Value.cells] at hc
  obtain ⟨rfl, rfl, rfl⟩ := hc
  rw [callCells] at hel
  have key : ∀ i, i < len → ∃ f : Int × Int, a.spot = none ∧ a.block < w.heap.size ∧ w.cell? ⟨a.block, a.off + i * 2, none⟩ = some (.int .u8 f.1) ∧ w.cell? ⟨a.block, a.off + i * 2 + 1, none⟩ = some (.int .i64 f.2) ∧ 0 ≤ f.1 ∧ f.1 ≤ 255 := fun i hi => by
   obtain ⟨es, y, h1, h2, hyE⟩ := hel i hi
   obtain ⟨y0, y1, m, _, hl, g0, g1⟩ := trod_struct2 Try.underlying62 h2
   simp only at g0 g1
   rw [u8Cells1] at g0
   rw [intCells1] at g1
   obtain ⟨kd, hk, _, hk2⟩ := DataW.trod_int Try.underlying5 g0
   obtain ⟨q, hq, _⟩ := DataW.trod_int Try.underlying3 g1
   have hb := bounds_u8 hk2
   have e1 : a.spot = none := by
    obtain ⟨_, _, h0, _⟩ := hel 0 (by omega)
    exact spot_of (by decide) h0
   obtain ⟨e2, _, e3⟩ := cells_spot e1 (by decide) h1
   refine ⟨(kd, q), e1, e2, ?_, ?_, hb.1, by omega⟩
   ·have := e3 0 (.int .u8 kd) (by
     have := congrArg (·[0]?) hk
     simpa using this)
    simpa using this
   ·exact e3 1 (.int .i64 q) (by
     have := congrArg (·[0]?) hq
     simpa using this)
  obtain ⟨f, hf⟩ := choose_lt (α := Int × Int) key
  refine ⟨(List.range len).map f, some a, cap, a.block, a.off, by simp, fun i hi => ?_⟩
  have hi' : i < len := by simpa using hi
  obtain ⟨e1, e2, e3⟩ := hf i hi'
  refine ⟨?_, e2, ?_⟩
  ·obtain ⟨g, o, s⟩ := a
   simp only at e1
   subst e1
   rfl
  ·simpa using e3

end Go.Proofs.Ytanfnafiofkihaa
