/-
  The writer's calls, each by a contract: New, spoil, put, Num, Text, Hash, Flag, End. A writer in memory is 'Wr': its bytes, or that it is spoilt.
-/
import Derived.Test.YtbpcmfnfjbnloaaDoorProg
import Derived.Test.YtbpcmfnfjbnloaaDoorWireMem
import Derived.WalkSpells
namespace Go.Proofs.YtbpcmfnfjbnloaaDoor
open Go.RowKit

theorem wireInfo5 : (Tryd.prog.info? 5).map (fun i => (i.zero, i.size, i.bytes)) = some (some (.int .u8 0), 1, 1) := by kernel_rfl

theorem new_calls (w : World) : Calls Tryd.prog 13 #[] w fun e w' => e = .returned (.pointer (some ⟨w.heap.size, 0, none⟩)) ∧ Wr w' (w.heap.size + 1) w.heap.size (some []) ∧ Kept w.heap.size w.heap.size w w' ∧ w'.heap.size = w.heap.size + 1 := by
  go_enter Tryd.func13, Tryd.ntmps13
  go_wp2
  go_ret
  refine ⟨rfl, ?_, (Kept.refl _ _ _).alloc (Nat.le_refl _) _, by simp⟩
  exact (⟨Nat.lt_succ_self _, by simp, none, 0, 0, heap_new _ _, World.ownsRow_nil _ _ _ _⟩ : WrOk (w.alloc (.cells #[.slice none 0 0, .bool false] 65)) (w.heap.size + 1) w.heap.size [])

theorem spoil_nil (w : World) : Calls Tryd.prog 40 #[.pointer none] w fun e w' => e = .returned (.tuple #[]) ∧ w = w' := by
  go_enter Tryd.func40, Tryd.ntmps40
  go_wp2
  refine bodyPost_ret (results_none rfl _ _ _) rfl ?_
  exact ⟨rfl, rfl⟩

theorem spoil_raw (b : Nat) (v : Value) (sp : Bool) (w : World) (h0 : w.cell? ⟨b, 0, none⟩ = some v) (h1 : w.cell? ⟨b, 1, none⟩ = some (.bool sp)) (f0 : w.frozen? ⟨b, 0, none⟩ = false) (f1 : w.frozen? ⟨b, 1, none⟩ = false) :
    Calls Tryd.prog 40 #[.pointer (some ⟨b, 0, none⟩)] w fun e w' => e = .returned (.tuple #[]) ∧ (w.setCell ⟨b, 0, none⟩ (.slice none 0 0)).setCell ⟨b, 1, none⟩ (.bool true) = w' := by
  go_enter Tryd.func40, Tryd.ntmps40
  go_wp2
  go_end0
  exact ⟨rfl, rfl⟩

theorem spoil_calls (base b : Nat) (st : Option (List UInt8)) (w : World) (h : Wr w base b st) :
    Calls Tryd.prog 40 #[.pointer (some ⟨b, 0, none⟩)] w fun e w' => e = .returned (.tuple #[]) ∧ Wr w' base b none ∧ Kept base b w w' ∧ Fr b w w' := by
  have hex : ∃ a n c sp, w.heap[b]? = some (.cells #[.slice a n c, .bool sp] 65 (0, 0)) := by
    cases st with
    | none => obtain ⟨a, n, c, h1⟩ := WrBad.ex h; exact ⟨a, n, c, true, h1⟩
    | some l => obtain ⟨a, n, c, h1, _⟩ := WrOk.ex h; exact ⟨a, n, c, false, h1⟩
  obtain ⟨a, n, c, sp, hb⟩ := hex
  refine (spoil_raw b _ sp w (two_cell0 hb) (two_cell1 hb) (two_free hb 0) (two_free hb 1)).mono ?_
  rintro e w' ⟨rfl, rfl⟩
  refine ⟨rfl, ?_, ((Kept.refl _ _ _).set (.inl rfl) 0 _).set (.inl rfl) 1 _, ((Fr.refl _ _).set 0 _).set 1 _⟩
  exact (⟨h.lt, by have := h.le; simpa [World.setCell] using this, none, 0, 0, two_set1 (two_set0 hb)⟩ : WrBad _ _ _)

theorem put_nil (w : World) (v : Value) : Calls Tryd.prog 41 #[.pointer none, v] w fun e w' => e = .returned (.tuple #[]) ∧ w = w' := by
  go_enter Tryd.func41, Tryd.ntmps41
  go_wp2
  refine bodyPost_ret (results_none rfl _ _ _) rfl ?_
  exact ⟨rfl, rfl⟩
theorem put_spoilt (b : Nat) (v : Value) (w : World) (h1 : w.cell? ⟨b, 1, none⟩ = some (.bool true)) :
    Calls Tryd.prog 41 #[.pointer (some ⟨b, 0, none⟩), v] w fun e w' => e = .returned (.tuple #[]) ∧ w = w' := by
  go_enter Tryd.func41, Tryd.ntmps41
  go_wp2
  refine bodyPost_ret (results_none rfl _ _ _) rfl ?_
  exact ⟨rfl, rfl⟩

theorem put_raw (base b : Nat) (a0 : Option Addr) (n0 c0 : Nat) (n : Nat) (xs : List Value) (ad : Addr) (m c : Nat) (news : List Value) (w : World) (h0 : w.cell? ⟨b, 0, none⟩ = some (.slice a0 n0 c0)) (h1 : w.cell? ⟨b, 1, none⟩ = some (.bool false))
    (f0 : w.frozen? ⟨b, 0, none⟩ = false) (hown : w.ownsRow base 5 1 (.slice a0 n0 c0) n xs) (hb : some b ≠ Value.ownBlock (.slice a0 n0 c0)) (hl : news.length = m * 1) (hnews : ∀ j u, news[j]? = some u → w.cell? (ad.add j) = some u) (hone : ∀ u ∈ news, u.oneCell' = true)
    (hlen : n + m ≤ 1000000000) (hbase : base ≤ w.heap.size) :
    Calls Tryd.prog 41 #[.pointer (some ⟨b, 0, none⟩), .slice (some ad) m c] w fun e w' => e = .returned (.tuple #[]) ∧
      ∃ a1 n1 c1 w1, w1.ownsRow base 5 1 (.slice a1 n1 c1) (n + m) (xs ++ news) ∧ w.grownBy w1 (Value.ownBlock (.slice a0 n0 c0)) ∧ w' = w1.setCell ⟨b, 0, none⟩ (.slice a1 n1 c1) := by
  obtain ⟨i0, hi, hz0, hz1, hz2⟩ := info_parts wireInfo5
  go_enter Tryd.func41, Tryd.ntmps41
  go_wp2_with (at_builtin; refine wpList_append_own _ rfl _ _ 56 rfl base 5 i0 (.int .u8 0) 1 1 Tryd.underlying56 hi hz0 hz1 hz2 rfl (by decide) _ _ _ rfl hown ad m c news rfl hl hnews hone ?c1 ?c2 hbase ?_)
  case c1 => unfold maxLen; omega
  case c2 => omega
  intro v' w1 hown' hgrow _
  have hex : ∃ a n c, v' = .slice a n c := by
    rcases hown'.2 with ⟨rfl, _⟩ | ⟨g, cap, cur, rfl, _⟩
    · exact ⟨_, _, _, rfl⟩
    · exact ⟨_, _, _, rfl⟩
  obtain ⟨a1, n1, c1, hv1⟩ := hex
  subst hv1
  have k0 := hgrow.cell h0 hb
  have e0 : w1.frozen? ⟨b, 0, none⟩ = false := by
    rw [World.frozen?_of_block (w := w) (hgrow.block b (World.block_lt_of_cell? _ _ h0) hb)]; exact f0
  go_wp2
  go_end0
  exact ⟨rfl, _, _, _, _, hown', hgrow, rfl⟩

theorem put_calls (base b : Nat) (st : Option (List UInt8)) (ad : Addr) (m c : Nat) (news : List UInt8) (w : World) (h : Wr w base b st) (hm : news.length = m)
    (hc : ∀ j (hj : j < news.length), w.cell? (ad.add j) = some (.int .u8 (news[j]).toNat)) (hlen : ∀ l, st = some l → l.length + m ≤ 1000000000) :
    Calls Tryd.prog 41 #[.pointer (some ⟨b, 0, none⟩), .slice (some ad) m c] w fun e w' => e = .returned (.tuple #[]) ∧ Wr w' base b (st.map (· ++ news)) ∧ Kept base b w w' ∧ Fr b w w' := by
  cases st with
  | none =>
    obtain ⟨a, n, c0, hb⟩ := WrBad.ex h
    refine (put_spoilt b _ w (two_cell1 hb)).mono ?_
    rintro e w' ⟨rfl, rfl⟩
    exact ⟨rfl, h, Kept.refl _ _ _, Fr.refl _ _⟩
  | some l =>
    obtain ⟨a, n, c0, hb, hown⟩ := WrOk.ex h
    have hlt := WrOk.lt h
    have hle := WrOk.le h
    have hne : some b ≠ Value.ownBlock (.slice a n c0) := fun e => by
      have := (hown.lt b e.symm).1
      omega
    refine (put_raw base b a n c0 l.length (bcells l) ad m c (bcells news) w (two_cell0 hb) (two_cell1 hb) (two_free hb 0) hown hne (by rw [bcells_length, hm, Nat.mul_one]) ?_ (bcells_one _) (hlen l rfl) hle).mono ?_
    · intro j u hu
      have hj : j < news.length := by
        rcases Nat.lt_or_ge j news.length with h' | h'
        · exact h'
        · rw [List.getElem?_eq_none (by rw [bcells_length]; exact h')] at hu; cases hu
      rw [bcells_get _ _ hj] at hu
      cases hu
      exact hc j hj
    · rintro e w' ⟨rfl, a1, n1, c1, w1, hown1, hgrow, rfl⟩
      have hb1 : w1.heap[b]? = some (.cells #[.slice a n c0, .bool false] 65 (0, 0)) := (hgrow.block b (by omega) hne).trans hb
      have hk : Kept base b w w1 := (Kept.refl _ _ _).grown hgrow hle (fun k hk => (hown.lt k hk).1)
      refine ⟨rfl, ?_, hk.set (.inl rfl) 0 _, ((Fr.refl _ _).grown hown hgrow).set 0 _⟩
      refine (⟨hlt, ?_, a1, n1, c1, two_set0 hb1, ?_⟩ : WrOk _ _ _ _)
      · have := hk.size
        have e : (w1.setCell ⟨b, 0, none⟩ (.slice a1 n1 c1)).heap.size = w1.heap.size := by simp [World.setCell]
        omega
      · rw [List.length_append, bcells_append, hm]
        exact ownsRow_setCell_below hown1 hlt _

theorem spoil_v (base b : Nat) (p : Value) (st : Option (List UInt8)) (w : World) (h : WrV w base b p st) :
    Calls Tryd.prog 40 #[p] w fun e w' => e = .returned (.tuple #[]) ∧ WrV w' base b p none ∧ Kept base b w w' ∧ Fr b w w' := by
  rcases h with ⟨rfl, h2, h3, h4⟩ | ⟨rfl, h⟩
  · refine (spoil_nil w).mono ?_
    rintro e w' ⟨rfl, rfl⟩
    exact ⟨rfl, .inl ⟨rfl, h2, h3, rfl⟩, Kept.refl _ _ _, Fr.refl _ _⟩
  · refine (spoil_calls base b st w h).mono ?_
    rintro e w' ⟨rfl, h1, h2⟩
    exact ⟨rfl, .inr ⟨rfl, h1⟩, h2⟩

theorem put_v (base b : Nat) (p : Value) (st : Option (List UInt8)) (ad : Addr) (m c : Nat) (news : List UInt8) (w : World) (h : WrV w base b p st) (hm : news.length = m)
    (hc : ∀ j (hj : j < news.length), w.cell? (ad.add j) = some (.int .u8 (news[j]).toNat)) (hlen : Short st 900000000) (hm2 : m ≤ 1000000) :
    Calls Tryd.prog 41 #[p, .slice (some ad) m c] w fun e w' => e = .returned (.tuple #[]) ∧ WrV w' base b p (pRaw st news) ∧ Kept base b w w' ∧ Fr b w w' := by
  rcases h with ⟨rfl, h2, h3, h4⟩ | ⟨rfl, h⟩
  · refine (put_nil w _).mono ?_
    rintro e w' ⟨rfl, rfl⟩
    subst h4
    exact ⟨rfl, .inl ⟨rfl, h2, h3, rfl⟩, Kept.refl _ _ _, Fr.refl _ _⟩
  · refine (put_calls base b st ad m c news w h hm hc (fun l hl => by have := hlen l hl; omega)).mono ?_
    rintro e w' ⟨rfl, h1, h2⟩
    exact ⟨rfl, .inr ⟨rfl, h1⟩, h2⟩

end Go.Proofs.YtbpcmfnfjbnloaaDoor
