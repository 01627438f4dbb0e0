/-
  Free; FactsMem: several texts in one.
-/
import Derived.Deep.RegionHeld3
import Derived.Test.YtohichignjjleaaGP
import Derived.Test.YtohichignjjleaaGH
import Derived.Test.YtohichignjjleaaKD
import Derived.Test.YtohichignjjleaaKA

namespace Go.Proofs.Ytohichignjjleaa
open Go

/-- The slot that operation number i fills. -/
def slotOf (ops : Array Oper) (i : Nat) : Option Tmp := (ops[i]?).bind (·.dst)
/-- Is operation i still to come? -/
def toCome (listed : Array Bool) (i : Nat) : Bool := !listed.getD i true
def waitsOn (md : Region.Mode) (o : Oper) (j : Nat) : Bool := o.after.any fun e => Region.binds md e && e.on == j
/-- What operation o reads of what is still to be made ahead of it: number and slot. -/
def readsOf (md : Region.Mode) (ops : Array Oper) (listed : Array Bool) (o : Oper) : List (Nat × Tmp) :=
  (List.range ops.size).filterMap fun j => match slotOf ops j with
    | some d => if toCome listed j && waitsOn md o j && (o.looksAt ops).contains d then some (j, d) else none
    | none => none
/-- All that is still to be made: number and slot. -/
def makesOf (ops : Array Oper) (listed : Array Bool) : List (Nat × Tmp) :=
  (List.range ops.size).filterMap fun j => match slotOf ops j with
    | some d => if toCome listed j then some (j, d) else none
    | none => none
def putAll (V : Tmp → Value) (l : List (Nat × Tmp)) (tm : Array Value) : Array Value := l.foldl (fun acc p => acc.setIfInBounds p.2 (V p.2)) tm
/-- The region is one that the law below can be used of. -/
def plainRegion (md : Region.Mode) (ops : Array Oper) (listed : Array Bool) : Bool :=
  (List.range ops.size).all fun i => !toCome listed i || match ops[i]? with
    | none => false
    | some o => o.guard.isNone && (match o.op with | .select _ _ => false | _ => true) && (o.after.all fun e => !Region.binds md e || decide (e.on < i)) &&
      (List.range ops.size).all fun k => !toCome listed k || k == i || match ops[k]? with
        | none => false
        | some q => match q.dst with
          | none => true
          | some d => o.dst != some d && (!(o.looksAt ops).contains d || waitsOn md o k || waitsOn md q i)

section
variable {P : Program} {ops : Array Oper} {Q : Exit → Act → World → Prop} {md : Region.Mode} {S : World → Prop}

theorem toCome_iff {listed : Array Bool} {i : Nat} : toCome listed i = true ↔ listed.getD i true = false := by
  unfold toCome
  simp
theorem putAll_nil (V : Tmp → Value) (tm : Array Value) : putAll V [] tm = tm := rfl
theorem putAll_cons (V : Tmp → Value) (i : Nat) (d : Tmp) (l : List (Nat × Tmp)) (tm : Array Value) : putAll V ((i, d) :: l) tm = putAll V l (tm.setIfInBounds d (V d)) := rfl
theorem putAll_size (V : Tmp → Value) : ∀ (l : List (Nat × Tmp)) (tm : Array Value), (putAll V l tm).size = tm.size
  | [], _ => rfl
  | p :: l, tm => by
    show (putAll V l (tm.setIfInBounds p.2 (V p.2))).size = _
    rw [putAll_size V l]
    simp
theorem putAll_at (V : Tmp → Value) : ∀ (l : List (Nat × Tmp)) (tm : Array Value) (t : Nat), t < tm.size → (putAll V l tm)[t]? = if t ∈ l.map (·.2) then some (V t) else tm[t]?
  | [], _, _, _ => by simp [putAll]
  | p :: l, tm, t, ht => by
    have ih := putAll_at V l (tm.setIfInBounds p.2 (V p.2)) t (by simpa using ht)
    show (putAll V l (tm.setIfInBounds p.2 (V p.2)))[t]? = _
    rw [ih]
    by_cases h : t ∈ l.map (·.2)
    · rw [if_pos h, if_pos (by simp only [List.map_cons, List.mem_cons]; exact .inr h)]
    · rw [if_neg h]
      by_cases hp : p.2 = t
      · subst hp
        rw [if_pos (by simp)]
        simp [ht]
      · rw [if_neg (by simp only [List.map_cons, List.mem_cons, not_or]; exact ⟨fun e => hp e.symm, h⟩), Array.getElem?_setIfInBounds_ne hp]
theorem mem_reads {listed : Array Bool} {o : Oper} {p : Nat × Tmp} : p ∈ readsOf md ops listed o ↔ slotOf ops p.1 = some p.2 ∧ toCome listed p.1 = true ∧ waitsOn md o p.1 = true ∧ p.2 ∈ o.looksAt ops := by
  unfold readsOf
  rw [List.mem_filterMap]
  constructor
  · rintro ⟨j, _, hj⟩
    cases hs : slotOf ops j with
    | none => rw [hs] at hj; cases hj
    | some d =>
      rw [hs] at hj
      dsimp only at hj
      split at hj
      · rename_i h
        cases hj
        simp only [Bool.and_eq_true, List.contains_iff_mem] at h
        exact ⟨hs, h.1.1, h.1.2, h.2⟩
      · cases hj
  · rintro ⟨h1, h2, h3, h4⟩
    refine ⟨p.1, ?_, ?_⟩
    · rw [List.mem_range]
      rcases Nat.lt_or_ge p.1 ops.size with h | h
      · exact h
      · simp [slotOf, Array.getElem?_eq_none h] at h1
    · rw [h1]
      dsimp only
      rw [if_pos (by simp only [Bool.and_eq_true, List.contains_iff_mem]; exact ⟨⟨h2, h3⟩, h4⟩)]
theorem mem_makes {listed : Array Bool} {p : Nat × Tmp} : p ∈ makesOf ops listed ↔ slotOf ops p.1 = some p.2 ∧ toCome listed p.1 = true := by
  unfold makesOf
  rw [List.mem_filterMap]
  constructor
  · rintro ⟨j, _, hj⟩
    cases hs : slotOf ops j with
    | none => rw [hs] at hj; cases hj
    | some d =>
      rw [hs] at hj
      dsimp only at hj
      split at hj
      · rename_i h
        cases hj
        exact ⟨hs, h⟩
      · cases hj
  · rintro ⟨h1, h2⟩
    refine ⟨p.1, ?_, ?_⟩
    · rw [List.mem_range]
      rcases Nat.lt_or_ge p.1 ops.size with h | h
      · exact h
      · simp [slotOf, Array.getElem?_eq_none h] at h1
    · rw [h1]
      dsimp only
      rw [if_pos h2]

/-- What the check says of one operation. -/
theorem plainRegion_spec {listed : Array Bool} (h : plainRegion md ops listed = true) {i : Nat} {o : Oper} (ho : ops[i]? = some o) (hc : toCome listed i = true) :
    o.guard = none ∧ (∀ cs b, o.op ≠ .select cs b) ∧ (∀ e ∈ o.after, Region.binds md e = true → e.on < i) ∧
      ∀ k d, toCome listed k = true → k ≠ i → slotOf ops k = some d → o.dst ≠ some d ∧ (d ∈ o.looksAt ops → waitsOn md o k = true ∨ ∃ q, ops[k]? = some q ∧ waitsOn md q i = true) := by
  have hi : i < ops.size := (Array.getElem?_eq_some_iff.1 ho).1
  have h1 := (List.all_eq_true.1 h) i (List.mem_range.2 hi)
  rw [hc, ho] at h1
  simp only [Bool.not_true, Bool.false_or, Bool.and_eq_true] at h1
  obtain ⟨⟨⟨g1, g2⟩, g3⟩, g4⟩ := h1
  refine ⟨Option.isNone_iff_eq_none.1 g1, fun cs b e => ?_, fun e he hb => ?_, fun k d hk hki hs => ?_⟩
  · rw [e] at g2
    cases g2
  · have := (Array.all_eq_true_iff_forall_mem.1 g3) e he
    rw [hb] at this
    simpa using this
  · have hk2 : k < ops.size := by
      rcases Nat.lt_or_ge k ops.size with h | h
      · exact h
      · simp [slotOf, Array.getElem?_eq_none h] at hs
    have h2 := (List.all_eq_true.1 g4) k (List.mem_range.2 hk2)
    obtain ⟨q, hq⟩ : ∃ q, ops[k]? = some q := ⟨_, Array.getElem?_eq_getElem hk2⟩
    have hqd : q.dst = some d := by simpa [slotOf, hq] using hs
    have e1 : (k == i) = false := by simpa using hki
    rw [hk, hq, e1] at h2
    simp only [Bool.not_true, Bool.false_or, hqd, Bool.and_eq_true, Bool.or_eq_true, bne_iff_ne, Bool.not_eq_true'] at h2
    refine ⟨h2.1, fun hd => ?_⟩
    rcases h2.2 with (h3 | h3) | h3
    · have := List.contains_iff_mem.2 hd
      rw [this] at h3
      cases h3
    · exact .inl h3
    · exact .inr ⟨q, hq, h3⟩

/-- One operation, of which all but what it looks at is left open. -/
theorem wp_atLit {o : Oper} {b lit : Act} {u : World} {G : Value → World → Prop} (hsel : ∀ cs b, o.op ≠ .select cs b) (hQ : ∀ c a w, ¬ Q (.panic c) a w) (hs : lit.tmps.size = b.tmps.size)
    (he : ∀ x ∈ o.op.operands, b.eval x = lit.eval x) (h : o.wp P lit u (fun a' u' => ∃ v, a' = lit.put o.dst v ∧ G v u') Q) : o.wp P b u (fun b' u' => ∃ v, b' = b.put o.dst v ∧ G v u') Q := by
  have hput : ∀ v v', lit.put o.dst v = lit.put o.dst v' → b.put o.dst v = b.put o.dst v' := fun v v' e => by
    cases hd : o.dst with
    | none => rfl
    | some d =>
      rw [hd] at e
      simp only [Act.put, Act.mk.injEq, and_true] at e ⊢
      rcases Nat.lt_or_ge d b.tmps.size with hlt | hge
      · have := congrArg (·[d]?) e
        simp only [Array.getElem?_setIfInBounds_self, hs, hlt, if_true, Option.some.injEq] at this
        rw [this]
      · rw [Array.setIfInBounds_eq_of_size_le hge, Array.setIfInBounds_eq_of_size_le hge]
  unfold Oper.wp at h ⊢
  rw [execOp_congr o hsel he]
  generalize (execOp lit.eval o).run P u = r at h ⊢
  cases r with
  | ok n w' =>
    cases n <;> simp only [Oper.upon] at h ⊢
    case value v =>
      obtain ⟨v', e, hg⟩ := h
      exact ⟨v', hput _ _ e, hg⟩
    case skip =>
      obtain ⟨v', e, hg⟩ := h
      exact ⟨v', hput _ _ e, hg⟩
    case defer d =>
      obtain ⟨v', e, hg⟩ := h
      exfalso
      have h1 := congrArg (fun a => a.defers.length) e
      cases hd : o.dst <;> rw [hd] at h1 <;> simp [Act.put] at h1
    case enter f args =>
      refine Calls.mono h fun e w'' hh => ?_
      cases e with
      | returned v =>
        obtain ⟨v', e, hg⟩ := hh
        exact ⟨v', hput _ _ e, hg⟩
      | panicked c => exact absurd hh (hQ _ _ _)
      | outgrown => exact hh
    case row row args =>
      refine Rows.mono h fun v w'' hh => ?_
      obtain ⟨v', e, hg⟩ := hh
      exact ⟨v', hput _ _ e, hg⟩
  | halt x w' =>
    cases x <;> simp only [Oper.upon] at h ⊢
    case panic v => exact absurd h (hQ _ _ _)

/-- The value that an operation has left. -/
def leftBy (ops : Array Oper) (i : Nat) (V : Tmp → Value) : Value := match slotOf ops i with
  | some d => V d
  | none => undef

section law
variable (md ops) (c : Nat) (R1 R2 : World → World → Prop) (Z : Bool → World → Prop) (Y : Nat → Value → World → Prop) (listed0 : Array Bool) (tm : Array Value) (df : List Deferred) (w0 : World)
/-- What is to be shown of an operation: number c turns Z, all others keep it. -/
def StepOk (P : Program) (Q : Exit → Act → World → Prop) (i : Nat) (o : Oper) : Prop :=
  ∀ (V : Tmp → Value) (z : Bool) (u : World), R2 w0 u → Z z u → (i = c → z = false) → (∀ p ∈ readsOf md ops listed0 o, Y p.1 (V p.2) u) →
    ∀ K : Act → World → Prop, Shut (∀ a' u', (∃ v, a' = (⟨putAll V (readsOf md ops listed0 o) tm, df⟩ : Act).put o.dst v ∧ (if i = c then R2 u u' ∧ Z true u' else R1 u u') ∧ Y i (if o.dst.isSome then v else undef) u') → K a' u') →
      o.wp P ⟨putAll V (readsOf md ops listed0 o) tm, df⟩ u K Q
/-- The state on the way. -/
structure OnWay (listed : Array Bool) (b : Act) (u : World) : Prop where
  rel : R2 w0 u
  z : Z (toCome listed0 c && !toCome listed c) u
  df : b.defers = df
  size : b.tmps.size = tm.size
  made : ∀ i o, ops[i]? = some o → toCome listed0 i = true → toCome listed i = false → Y i (leftBy ops i (fun d => b.tmps.getD d undef)) u
  late : ∀ k q, ops[k]? = some q → toCome listed0 k = true → toCome listed k = false → ∀ j, waitsOn md q j = true → toCome listed j = false
  old : ∀ t, (∀ i, toCome listed0 i = true → toCome listed i = false → slotOf ops i ≠ some t) → b.tmps[t]? = tm[t]?
end law

theorem toCome_set {listed : Array Bool} {i j : Nat} (h : toCome listed i = true) : toCome (listed.setIfInBounds i true) j = if j = i then false else toCome listed j := by
  by_cases e : j = i
  · subst e
    rw [if_pos rfl]
    unfold toCome
    have hlt : j < listed.size := by
      rcases Nat.lt_or_ge j listed.size with h' | h'
      · exact h'
      · simp [toCome, Array.getElem?_eq_none h'] at h
    simp [hlt]
  · rw [if_neg e]
    unfold toCome
    rw [getD_set_ne true (Ne.symm e)]
theorem toCome_false {listed : Array Bool} {i : Nat} (h : listed.getD i false = true) : toCome listed i = false := by
  unfold toCome
  rcases Nat.lt_or_ge i listed.size with h' | h'
  · simp [h'] at h ⊢
    exact h
  · simp [Array.getElem?_eq_none h'] at h
theorem count_set {listed : Array Bool} {i : Nat} (h : toCome listed i = true) : (listed.setIfInBounds i true).toList.count false + 1 = listed.toList.count false := by
  have hlt : i < listed.size := by
    rcases Nat.lt_or_ge i listed.size with h' | h'
    · exact h'
    · simp [toCome, Array.getElem?_eq_none h'] at h
  have hv : listed[i] = false := by simpa [toCome, hlt] using h
  have hv2 : listed.toList[i]'(by simpa using hlt) = false := by simpa using hv
  have hpos : 0 < listed.toList.count false := List.count_pos_iff.2 (by rw [← hv2]; exact List.getElem_mem _)
  rw [Array.toList_setIfInBounds, List.count_set (by simpa using hlt), hv2]
  generalize listed.toList.count false = m at hpos ⊢
  show m - 1 + 0 + 1 = m
  omega

set_option maxHeartbeats 1600000 in
/-- The law. -/
theorem wpAnyH_free (c : Nat) (R1 R2 : World → World → Prop) (Z : Bool → World → Prop) (Y : Nat → Value → World → Prop) {n : Nat} {listed0 : Array Bool} {tm : Array Value} {df : List Deferred} {w0 : World}
    (hp : plainRegion md ops listed0 = true) (hbd : (makesOf ops listed0).all (fun p => decide (p.2 < tm.size)) = true) (hsz : listed0.size = ops.size) (hn : listed0.toList.count false ≤ n) (hQ : ∀ c a w, ¬ Q (.panic c) a w)
    (h12 : ∀ u u', R2 w0 u → R1 u u' → R2 u u') (h2t : ∀ u u', R2 w0 u → R2 u u' → R2 w0 u') (hZ : ∀ z u u', R2 w0 u → Z z u → R1 u u' → Z z u') (hY : ∀ i v u u', R2 w0 u → Y i v u → R2 u u' → Y i v u') (hS : ∀ u, R2 w0 u → S u)
    (h0 : R2 w0 w0) (hz0 : Z false w0)
    (hstep : ∀ i o, ops[i]? = some o → toCome listed0 i = true → StepOk ops md c R1 R2 Z Y listed0 tm df w0 P Q i o)
    (hfin : ∀ (V : Tmp → Value) (u : World), R2 w0 u → Z (toCome listed0 c) u → (∀ i o, ops[i]? = some o → toCome listed0 i = true → Y i (leftBy ops i V) u) → Q .normal ⟨putAll V (makesOf ops listed0) tm, df⟩ u) :
    wpAnyH P md ops Q S n listed0 ⟨tm, df⟩ w0 := by
  -- the end
  have hend : ∀ (listed : Array Bool) (b : Act) (u : World), listed.size = ops.size → (∀ i, toCome listed i = true → toCome listed0 i = true) → OnWay ops md c R2 Z Y listed0 tm df w0 listed b u → Region.ready md ops listed = [] → Q .normal b u := fun listed b u hs hmono hI hr => by
    have hall : ∀ i, toCome listed i = false := fun i => by
      induction i using Nat.strongRecOn with
      | _ i ih =>
        cases hc : toCome listed i with
        | false => rfl
        | true =>
          exfalso
          have hlt : i < ops.size := by
            rcases Nat.lt_or_ge i listed.size with h' | h'
            · omega
            · simp [toCome, Array.getElem?_eq_none h'] at hc
          obtain ⟨_, _, hord, _⟩ := plainRegion_spec hp (Array.getElem?_eq_getElem hlt) (hmono i hc)
          have : i ∈ Region.ready md ops listed := mem_ready.2 ⟨toCome_iff.1 hc, _, Array.getElem?_eq_getElem hlt, fun e he hb => by
            have h1 := hord e he hb
            have h2 := ih e.on h1
            have h3 : e.on < listed.size := by omega
            simpa [toCome, h3] using h2⟩
          rw [hr] at this
          cases this
    have hz := hI.z
    rw [hall c, Bool.not_false, Bool.and_true] at hz
    have := hfin (fun d => b.tmps.getD d undef) u hI.rel hz (fun i o ho h => hI.made i o ho h (hall i))
    have e : b = ⟨putAll (fun d => b.tmps.getD d undef) (makesOf ops listed0) tm, df⟩ := by
      obtain ⟨bt, bd⟩ := b
      have h1 := hI.df
      have h2 := hI.size
      have h3 := hI.old
      dsimp only at h1 h2 h3 ⊢
      rw [h1]
      congr 1
      apply Array.ext_getElem?
      intro t
      rcases Nat.lt_or_ge t tm.size with ht | ht
      · rw [putAll_at _ _ _ _ ht]
        split
        · rw [Array.getD_eq_getD_getElem?, Array.getElem?_eq_getElem (by omega)]
          rfl
        · rename_i hm
          refine h3 t (fun i h4 _ h5 => hm ?_)
          exact List.mem_map.2 ⟨(i, t), mem_makes.2 ⟨h5, h4⟩, rfl⟩
      · rw [Array.getElem?_eq_none (by omega), Array.getElem?_eq_none (by rw [putAll_size]; omega)]
    rw [e]
    exact this
  have main : ∀ (n : Nat) (listed : Array Bool) (b : Act) (u : World), listed.size = ops.size → listed.toList.count false ≤ n → (∀ i, toCome listed i = true → toCome listed0 i = true) → OnWay ops md c R2 Z Y listed0 tm df w0 listed b u → wpAnyH P md ops Q S n listed b u := by
    intro n
    induction n with
    | zero =>
      intro listed b u hs hc hmono hI
      have hr : Region.ready md ops listed = [] := by
        cases hr : Region.ready md ops listed with
        | nil => rfl
        | cons i rs =>
          exfalso
          have h1 := (mem_ready.1 (by rw [hr]; exact List.mem_cons_self .. : i ∈ Region.ready md ops listed)).1
          have := count_set (toCome_iff.2 h1)
          omega
      exact ⟨hr, hend listed b u hs hmono hI hr⟩
    | succ n ih =>
      intro listed b u hs hc hmono hI
      refine ⟨hend listed b u hs hmono hI, fun i hi => ?_⟩
      obtain ⟨hun, o, ho, hall⟩ := mem_ready.1 hi
      have hci := toCome_iff.2 hun
      have hc0 := hmono i hci
      obtain ⟨hg, hsel, _, hsep⟩ := plainRegion_spec hp ho hc0
      have hw : Region.wanted o (yielded ops b.tmps) = true := by
        unfold Region.wanted
        rw [hg]
      -- waits are over
      have hpre : ∀ j, waitsOn md o j = true → toCome listed j = false := fun j hj => by
        obtain ⟨e, he, h1⟩ := Array.any_eq_true'.1 hj
        rw [Bool.and_eq_true, beq_iff_eq] at h1
        have := hall e he h1.1
        rw [h1.2] at this
        exact toCome_false this
      have hnot : ∀ k q, ops[k]? = some q → waitsOn md q i = true → toCome listed k = true ∨ toCome listed0 k = false := fun k q hq hk => by
        cases h : toCome listed k with
        | true => exact .inl rfl
        | false =>
          cases h9 : toCome listed0 k with
          | false => exact .inr rfl
          | true =>
            have := hI.late k q hq h9 h i hk
            rw [hci] at this
            cases this
      have hb : ∀ t ∈ o.looksAt ops, b.tmps.getD t undef = (putAll (fun d => b.tmps.getD d undef) (readsOf md ops listed0 o) tm).getD t undef := fun t ht => by
        rw [Array.getD_eq_getD_getElem?, Array.getD_eq_getD_getElem?]
        rcases Nat.lt_or_ge t tm.size with hlt | hge
        · rw [putAll_at _ _ _ _ hlt]
          split
          · rw [Array.getD_eq_getD_getElem?, Array.getElem?_eq_getElem (by rw [hI.size]; exact hlt)]
            rfl
          · rename_i hm
            rw [hI.old t (fun k h1 h2 h3 => ?_)]
            by_cases hki : k = i
            · subst hki
              rw [hci] at h2
              cases h2
            · rcases (hsep k t h1 hki h3).2 ht with h4 | ⟨q, hq, h4⟩
              · exact hm (List.mem_map.2 ⟨(k, t), mem_reads.2 ⟨h3, h1, h4, ht⟩, rfl⟩)
              · rcases hnot k q hq h4 with h5 | h5
                · rw [h5] at h2; cases h2
                · rw [h5] at h1; cases h1
        · rw [Array.getElem?_eq_none (by rw [hI.size]; exact hge), Array.getElem?_eq_none (by rw [putAll_size]; exact hge)]
      obtain ⟨lit, hlit⟩ : ∃ lit : Act, lit = ⟨putAll (fun d => b.tmps.getD d undef) (readsOf md ops listed0 o) tm, df⟩ := ⟨_, rfl⟩
      have h1 := hstep i o ho hc0 (fun d => b.tmps.getD d undef) (toCome listed0 c && !toCome listed c) u hI.rel hI.z (fun e => by subst e; rw [hci]; simp) (fun p hp => by
        obtain ⟨h1, h2, h3, _⟩ := mem_reads.1 hp
        obtain ⟨q, hq⟩ : ∃ q, ops[p.1]? = some q := by
          cases h : ops[p.1]? with
          | none => simp [slotOf, h] at h1
          | some q => exact ⟨q, rfl⟩
        have := hI.made p.1 q hq h2 (hpre _ h3)
        rwa [leftBy, h1] at this)
      rw [← hlit] at h1
      have h2 := h1 (fun a' u' => ∃ v, a' = lit.put o.dst v ∧ (if i = c then R2 u u' ∧ Z true u' else R1 u u') ∧ Y i (if o.dst.isSome then v else undef) u') (fun _ _ h => h)
      have h3 := wp_atLit (b := b) (G := fun v u' => (if i = c then R2 u u' ∧ Z true u' else R1 u u') ∧ Y i (if o.dst.isSome then v else undef) u') hsel hQ (by rw [hlit, hI.size]; exact putAll_size _ _ _) (fun x hx => by
        cases x with
        | tmp t =>
          rw [hlit]
          exact hb t (List.mem_append_left _ (List.mem_filterMap.2 ⟨.tmp t, by simpa using hx, rfl⟩))
        | _ => rfl) h2
      unfold wpOp
      simp only [ho, hw, if_true]
      refine .inl (Oper.wp_mono (fun b' u' hh => ?_) h3)
      obtain ⟨v, rfl, hrel, hy⟩ := hh
      have hslot : slotOf ops i = o.dst := by simp [slotOf, ho]
      have r2 : R2 u u' := by
        by_cases e : i = c
        · rw [if_pos e] at hrel
          exact hrel.1
        · rw [if_neg e] at hrel
          exact h12 _ _ hI.rel hrel
      have r0 := h2t _ _ hI.rel r2
      have hset := fun j => toCome_set (j := j) hci
      refine ⟨hS _ r0, ih _ _ _ (by simpa using hs) (by have := count_set hci; omega) (fun j hj => ?_) ⟨r0, ?_, ?_, ?_, fun j q hq hj0 hj => ?_, fun k q hq hk0 hk j hkj => ?_, fun t ht => ?_⟩⟩
      · rw [hset] at hj
        split at hj
        · cases hj
        · exact hmono j hj
      · by_cases e : i = c
        · rw [if_pos e] at hrel
          rw [hset, if_pos e.symm, ← e, hc0]
          exact hrel.2
        · rw [if_neg e] at hrel
          rw [hset, if_neg (Ne.symm e)]
          exact hZ _ _ _ hI.rel hI.z hrel
      · cases hd : o.dst <;> exact hI.df
      · cases hd : o.dst
        · exact hI.size
        · simp only [Act.put, Array.size_setIfInBounds]
          exact hI.size
      · by_cases e : j = i
        · subst e
          rw [ho] at hq
          cases hq
          rw [leftBy, hslot]
          cases hd : o.dst with
          | none =>
            rw [hd] at hy
            exact hy
          | some d =>
            rw [hd] at hy
            have hlt : d < b.tmps.size := by
              rw [hI.size]
              have := (List.all_eq_true.1 hbd) (j, d) (mem_makes.2 ⟨by rw [hslot, hd], hc0⟩)
              simpa using this
            have e2 : (b.put (some d) v).tmps.getD d undef = v := by simp [Act.put, hlt]
            dsimp only
            rw [e2]
            exact hy
        · rw [hset, if_neg e] at hj
          have h5 := hY _ _ _ _ hI.rel (hI.made j q hq hj0 hj) r2
          have h6 := fun d => (hsep j d hj0 e)
          have h7 : leftBy ops j (fun d => (b.put o.dst v).tmps.getD d undef) = leftBy ops j (fun d => b.tmps.getD d undef) := by
            unfold leftBy
            cases hsj : slotOf ops j with
            | none => rfl
            | some d =>
              have hne := (h6 d hsj).1
              dsimp only
              cases hd : o.dst with
              | none => rfl
              | some d' =>
                rw [hd] at hne
                have : d' ≠ d := fun e => hne (by rw [e])
                simp only [Act.put, Array.getD_eq_getD_getElem?, Array.getElem?_setIfInBounds_ne this]
          rw [h7]
          exact h5
      · have hj : toCome listed j = false := by
          by_cases e : k = i
          · subst e
            rw [ho] at hq
            cases hq
            exact hpre j hkj
          · rw [hset, if_neg e] at hk
            exact hI.late k q hq hk0 hk j hkj
        rw [hset]
        split
        · rfl
        · exact hj
      · have h5 := ht i hc0 (by rw [hset, if_pos rfl])
        rw [hslot] at h5
        have h6 : (b.put o.dst v).tmps[t]? = b.tmps[t]? := by
          cases hd : o.dst with
          | none => rfl
          | some d =>
            rw [hd] at h5
            have : d ≠ t := fun e => h5 (by rw [e])
            simp only [Act.put, Array.getElem?_setIfInBounds_ne this]
        rw [h6]
        refine hI.old t (fun k hk0 hk => ht k hk0 ?_)
        rw [hset]
        split
        · rfl
        · exact hk
  refine main n listed0 ⟨tm, df⟩ w0 hsz hn (fun _ h => h) ⟨h0, ?_, rfl, rfl, fun i o ho h1 h2 => ?_, fun k q hq h1 h2 => ?_, fun _ _ => rfl⟩
  · rw [show (toCome listed0 c && !toCome listed0 c) = false by cases toCome listed0 c <;> rfl]
    exact hz0
  · rw [h1] at h2
    cases h2
  · rw [h1] at h2
    cases h2

/-- All operations of a list. -/
def AllFree (P : Program) (md : Region.Mode) (ops : Array Oper) (Q : Exit → Act → World → Prop) (c : Nat) (R1 R2 : World → World → Prop) (Z : Bool → World → Prop) (Y : Nat → Value → World → Prop) (listed0 : Array Bool) (tm : Array Value) (df : List Deferred) (w0 : World) (rs : List Nat) : Prop :=
  ∀ i ∈ rs, ∀ o, ops[i]? = some o → StepOk ops md c R1 R2 Z Y listed0 tm df w0 P Q i o
section
variable {c : Nat} {R1 R2 : World → World → Prop} {Z : Bool → World → Prop} {Y : Nat → Value → World → Prop} {listed0 : Array Bool} {tm : Array Value} {df : List Deferred} {w0 : World}
theorem AllFree.nil : AllFree P md ops Q c R1 R2 Z Y listed0 tm df w0 [] := fun _ h => nomatch h
/-- One that keeps what there is. -/
theorem AllFree.cons {i : Nat} {o : Oper} {rs : List Nat} (rd : List (Nat × Tmp)) (ho : ops[i]? = some o) (hrd : readsOf md ops listed0 o = rd) (hic : (i == c) = false)
    (h : ∀ (V : Tmp → Value) (z : Bool) (u : World), R2 w0 u → Z z u → (∀ p ∈ rd, Y p.1 (V p.2) u) → ∀ K : Act → World → Prop, Shut (∀ a' u', (∃ v, a' = (⟨putAll V rd tm, df⟩ : Act).put o.dst v ∧ R1 u u' ∧ Y i (if o.dst.isSome then v else undef) u') → K a' u') → o.wp P ⟨putAll V rd tm, df⟩ u K Q)
    (hs : AllFree P md ops Q c R1 R2 Z Y listed0 tm df w0 rs) : AllFree P md ops Q c R1 R2 Z Y listed0 tm df w0 (i :: rs) := fun j hj o' ho' => by
  rcases List.mem_cons.1 hj with rfl | hj
  · rw [ho] at ho'
    cases ho'
    intro V z u hu hz _ hy K hK
    rw [hrd] at hy hK ⊢
    have hne : j ≠ c := by simpa using hic
    refine h V z u hu hz hy K (fun a' u' hh => hK a' u' ?_)
    obtain ⟨v, e, h1, h2⟩ := hh
    exact ⟨v, e, by rw [if_neg hne]; exact h1, h2⟩
  · exact hs j hj o' ho'
/-- The one that turns Z. -/
theorem AllFree.turn {o : Oper} {rs : List Nat} (rd : List (Nat × Tmp)) (ho : ops[c]? = some o) (hrd : readsOf md ops listed0 o = rd)
    (h : ∀ (V : Tmp → Value) (u : World), R2 w0 u → Z false u → (∀ p ∈ rd, Y p.1 (V p.2) u) → ∀ K : Act → World → Prop, Shut (∀ a' u', (∃ v, a' = (⟨putAll V rd tm, df⟩ : Act).put o.dst v ∧ (R2 u u' ∧ Z true u') ∧ Y c (if o.dst.isSome then v else undef) u') → K a' u') → o.wp P ⟨putAll V rd tm, df⟩ u K Q)
    (hs : AllFree P md ops Q c R1 R2 Z Y listed0 tm df w0 rs) : AllFree P md ops Q c R1 R2 Z Y listed0 tm df w0 (c :: rs) := fun j hj o' ho' => by
  rcases List.mem_cons.1 hj with rfl | hj
  · rw [ho] at ho'
    cases ho'
    intro V z u hu hz hzc hy K hK
    rw [hrd] at hy hK ⊢
    rw [hzc rfl] at hz
    refine h V u hu hz hy K (fun a' u' hh => hK a' u' ?_)
    obtain ⟨v, e, h1, h2⟩ := hh
    exact ⟨v, e, by rw [if_pos rfl]; exact h1, h2⟩
  · exact hs j hj o' ho'
end
/-- The law, with lists. -/
theorem wpAnyH_each (c : Nat) (R1 R2 : World → World → Prop) (Z : Bool → World → Prop) (Y : Nat → Value → World → Prop) {n : Nat} {listed0 : Array Bool} {tm : Array Value} {df : List Deferred} {w0 : World} (rs : List Nat) (mk : List (Nat × Tmp))
    (hp : plainRegion md ops listed0 = true) (hrs : ((List.range ops.size).filter (toCome listed0)) = rs) (hmk : makesOf ops listed0 = mk) (hbd : mk.all (fun p => decide (p.2 < tm.size)) = true) (hsz : listed0.size = ops.size) (hn : decide (listed0.toList.count false ≤ n) = true) (hQ : ∀ c a w, ¬ Q (.panic c) a w)
    (h12 : ∀ u u', R2 w0 u → R1 u u' → R2 u u') (h2t : ∀ u u', R2 w0 u → R2 u u' → R2 w0 u') (hZ : ∀ z u u', R2 w0 u → Z z u → R1 u u' → Z z u') (hY : ∀ i v u u', R2 w0 u → Y i v u → R2 u u' → Y i v u') (hS : ∀ u, R2 w0 u → S u)
    (h0 : R2 w0 w0) (hz0 : Z false w0)
    (hstep : AllFree P md ops Q c R1 R2 Z Y listed0 tm df w0 rs)
    (hfin : ∀ (V : Tmp → Value) (u : World), R2 w0 u → Z (toCome listed0 c) u → (∀ i o, ops[i]? = some o → toCome listed0 i = true → Y i (leftBy ops i V) u) → Q .normal ⟨putAll V mk tm, df⟩ u) :
    wpAnyH P md ops Q S n listed0 ⟨tm, df⟩ w0 :=
  wpAnyH_free c R1 R2 Z Y hp (by rw [hmk]; exact hbd) hsz (of_decide_eq_true hn) hQ h12 h2t hZ hY hS h0 hz0 (fun i o ho hc => hstep i (by
    rw [← hrs, List.mem_filter, List.mem_range]
    exact ⟨(Array.getElem?_eq_some_iff.1 ho).1, hc⟩) o ho) (by rw [hmk]; exact hfin)
theorem NoPanic.not {Q : Exit → Act → World → Prop} : ∀ (c : List PanicEntry) (a : Act) (w : World), ¬ NoPanic Q (.panic c) a w := fun _ _ _ h => h

end
end Go.Proofs.Ytohichignjjleaa

namespace Go.Proofs.Ytohichignjjleaa
open Go.RowKit Go.Lib

/-- What is no row of cells of type T stays. -/
def StayG (T : TypeId) (w w' : World) : Prop := ∀ (k : Nat) (o : Obj), w.heap[k]? = some o → (∀ cs fr, o ≠ .cells cs T fr) → w'.heap[k]? = some o
theorem StayG.cells {T : TypeId} {w w' : World} (h : StayG T w w') {k : Nat} {cs : Array Value} {t : TypeId} {fr : Nat × Nat} (hk : w.heap[k]? = some (.cells cs t fr)) (ht : t ≠ T) : w'.heap[k]? = some (.cells cs t fr) :=
  h k _ hk (fun cs2 fr2 e => by
    injection e with _ h2 _
    exact ht h2)
theorem StayG.grown {T : TypeId} {w w' : World} {fb n s : Nat} {v : Value} {xs : List Value} (ho : w.ownsRow fb T s v n xs) (hg : w.grownBy w' v.ownBlock) : StayG T w w' := fun i o hi hn => by
  rw [hg.block i (lt_of_block hi) (fun e => ?_)]
  · exact hi
  · rcases ho.2 with ⟨rfl, _⟩ | ⟨g, cap, cur, rfl, _, hh, _⟩
    · simp [Value.ownBlock] at e
    · simp [Value.ownBlock] at e
      subst e
      rw [hi] at hh
      cases hh
      exact hn _ _ rfl
theorem StayG.setRow {T : TypeId} {w : World} {g : Nat} {old : Array Value} {fr : Nat × Nat} (h : w.heap[g]? = some (.cells old T fr)) (cs : Array Value) : StayG T w (w.setRow g cs) := fun i o hi hn => by
  rw [setRow_other w g i cs (fun e => ?_)]
  · exact hi
  · subst e
    rw [hi] at h
    cases h
    exact hn _ _ rfl
theorem Bok.stayG {T : TypeId} {w w' : World} {base bb b : Nat} {fs : List (List (List UInt8) × List (List UInt8))} {nmf : Lit → Option Value} {S : BokS} (h : Bok w base bb fs b nmf S) (k : StayG T w w') (t1 : 85 ≠ T) (t2 : 3 ≠ T) (t3 : 122 ≠ T) (t4 : 26 ≠ T) : Bok w' base bb fs b nmf S := by
  have hm : ∀ {i : Nat}, (∃ es c, w.heap[i]? = some (.map es c)) → w'.heap[i]? = w.heap[i]? := fun {i} ⟨es, c, hh⟩ => by
    rw [hh]
    exact k i _ hh (fun cs2 fr2 e => by cases e)
  refine ⟨k.cells h.cells t1, h.lowb, h.lowa, h.lown, h.lowm, h.an, h.amm, h.nmm, ?_, h.alike.same (hm h.alike.map), h.need.same (hm h.need.map), h.names.same (hm h.names.map), fun o => (h.row o).stay fun i hi => ?_, h.sep, h.free, h.needed, h.same, h.found, h.few⟩
  · refine h.facts.stay (fun i hi => ?_) (fun i cs fr hh => k.cells hh t4)
    obtain ⟨ps, _, ho, _⟩ := h.facts
    obtain ⟨cs, hh⟩ := rowCells ho i hi
    rw [hh]
    exact k.cells hh t3
  · obtain ⟨cs, hh⟩ := (h.row o).cellsAt i hi
    rw [hh]
    exact k.cells hh t2
theorem InBook.stayG {T : TypeId} {w w' : World} {base bb n : Nat} {fs : Facts} (h : InBook w base bb fs n) (k : StayG T w w') (t1 : 85 ≠ T) (t2 : 3 ≠ T) (t3 : 122 ≠ T) (t4 : 26 ≠ T) : InBook w' base bb fs n := by
  obtain ⟨n', h1, S, h3⟩ := h
  exact ⟨n', h1, S, h3.stayG k t1 t2 t3 t4⟩
theorem Own.stayG {T : TypeId} {w w' : World} {base : Nat} {v : Value} {M : List (List UInt8)} (h : Own w base v M) (k : StayG T w w') (t1 : 25 ≠ T) : Own w' base v M := by
  refine ⟨h.1, h.2.1, ?_⟩
  rcases h.2.2 with h1 | ⟨g, cap, cur, rfl, hb2, hh, rest⟩
  · exact .inl h1
  · exact .inr ⟨g, cap, cur, rfl, hb2, k.cells hh t1, rest⟩
theorem OwnF.stayG {T : TypeId} {w w' : World} {base : Nat} {v : Value} {L : Facts} (h : OwnF w base v L) (k : StayG T w w') (t1 : 25 ≠ T) (t2 : 35 ≠ T) : OwnF w' base v L := by
  obtain ⟨ps, hl, ho, hp⟩ := h
  refine ⟨ps, hl, ⟨ho.1, ?_⟩, fun i hi hpi => ⟨(hp i hi hpi).1.stayG k t1, (hp i hi hpi).2.stayG k t1⟩⟩
  rcases ho.2 with h1 | ⟨g, cap, cur, rfl, hb2, hh, rest⟩
  · exact .inl h1
  · exact .inr ⟨g, cap, cur, rfl, hb2, k.cells hh t2, rest⟩
theorem Own.oneCell {w : World} {base : Nat} {v : Value} {M : List (List UInt8)} (h : Own w base v M) : v.oneCell' = true := by
  rcases h.2.2 with ⟨rfl, _⟩ | ⟨g, cap, cur, rfl, _⟩ <;> rfl
theorem OwnF.oneCell {w : World} {base : Nat} {v : Value} {L : Facts} (h : OwnF w base v L) : v.oneCell' = true := by
  obtain ⟨ps, _, ho, _⟩ := h
  rcases ho.2 with ⟨rfl, _⟩ | ⟨g, cap, cur, rfl, _⟩ <;> rfl
theorem OwnF.shape {w : World} {base : Nat} {v : Value} {L : Facts} (h : OwnF w base v L) : ∃ ad c, v = .slice ad L.length c := by
  obtain ⟨ad, g, o, c, hv, _⟩ := h.fs
  exact ⟨ad, c, hv⟩
theorem OwnF.low {w : World} {base base' : Nat} {v : Value} {L : Facts} (h : OwnF w base v L) (hb : base' ≤ base) : OwnF w base' v L := by
  obtain ⟨ps, hl, ho, hp⟩ := h
  refine ⟨ps, hl, ⟨ho.1, ?_⟩, hp⟩
  rcases ho.2 with h1 | ⟨g, cap, cur, rfl, hb2, rest⟩
  · exact .inl h1
  · exact .inr ⟨g, cap, cur, rfl, Nat.le_trans hb hb2, rest⟩
/-- Facts put behind a row of one's own. -/
theorem append_facts (w : World) (base : Nat) (v : Value) (L : Facts) (hown : OwnF w base v L) (hbase : base ≤ w.heap.size) (b c m : Nat) (ps : List (Value × Value)) (F : Facts) (hm : F.length = m) (hpl : ps.length = F.length) (hq : ∀ i (hi : i < F.length) (hj : i < ps.length), Own w 0 ps[i].1 F[i].1 ∧ Own w 0 ps[i].2 F[i].2) (hb : ∀ j u, (ps.flatMap fun p => [p.1, p.2])[j]? = some u → w.cell? ⟨b, j, none⟩ = some u) (hl : L.length + F.length < 1000000) :
    ∃ v' w', (Builtin.append_ #[31, 31] 31 #[v, .slice (some ⟨b, 0, none⟩) m c]).run Try.prog w = .ok v' w' ∧ OwnF w' base v' (L ++ F) ∧ w.grownBy w' v.ownBlock := by
  subst hm
  obtain ⟨i, z, hi, hz, hzs, hs⟩ := fact_info
  have hby : i.bytes = 48 := by
    have := factBytes
    rw [hi] at this
    simpa using this
  obtain ⟨qs, hpl2, ho, hp⟩ := hown
  have hfl : ∀ ps : List (Value × Value), (ps.flatMap fun p => [p.1, p.2]).length = ps.length * 2 := fun ps => by
    induction ps with
    | nil => rfl
    | cons p ps ih => rw [List.flatMap_cons, List.length_append, ih, List.length_cons]; simp; omega
  obtain ⟨v', w', h1, h2, h3, _⟩ := run_append_own (P := Try.prog) w base 31 31 35 i z 2 48 Try.underlying31 hi hz hs hby hzs (by decide) v L.length _ ho ⟨b, 0, none⟩ F.length c (ps.flatMap fun p => [p.1, p.2])
    (by rw [hfl, hpl]) (fun j u hu => by
      rw [Addr.add_lit, Nat.zero_add]
      exact hb j u hu)
    (fun u hu => by
      obtain ⟨p, hp1, hp2⟩ := List.mem_flatMap.1 hu
      obtain ⟨k, hk, rfl⟩ := List.getElem_of_mem hp1
      obtain ⟨o1, o2⟩ := hq k (by omega) hk
      simp at hp2
      rcases hp2 with rfl | rfl
      · exact o1.oneCell
      · exact o2.oneCell) (by unfold maxLen; omega) (by omega) hbase
  refine ⟨v', w', h1, ⟨qs ++ ps, by simp [hpl2, hpl], ?_, fun j hj hpj => ?_⟩, h3⟩
  · rw [List.length_append, List.flatMap_append]
    exact h2
  · rcases Nat.lt_or_ge j L.length with h | h
    · obtain ⟨p, q⟩ := hp j h (by omega)
      rw [List.getElem_append_left (by omega), List.getElem_append_left h]
      exact ⟨p.grownF ho h3, q.grownF ho h3⟩
    · have hjF : j - L.length < F.length := by rw [List.length_append] at hj; omega
      have hjp : j - qs.length < ps.length := by omega
      obtain ⟨p, q⟩ := hq (j - L.length) hjF (by omega)
      have e1 : (qs ++ ps)[j] = ps[j - L.length]'(by omega) := by
        rw [List.getElem_append_right (by omega)]
        simp only [hpl2]
      have e2 : (L ++ F)[j] = F[j - L.length] := List.getElem_append_right h
      rw [e1, e2]
      exact ⟨p.grownF ho h3, q.grownF ho h3⟩

/-! ## Rows of rows of facts. -/
theorem rowsInfoAll : (Try.prog.info? 31).map (fun i => (i.zero.map (·.cells.size), i.size, i.bytes)) = some (some 1, 1, 24) := by kernel_rfl
theorem rows_info : ∃ i z, Try.prog.info? 31 = some i ∧ i.zero = some z ∧ z.cells.size = 1 ∧ i.size = 1 ∧ i.bytes = 24 := by
  have h := rowsInfoAll
  cases hq : Try.prog.info? 31 with
  | none => rw [hq] at h; cases h
  | some i =>
    rw [hq] at h
    simp only [Option.map_some, Option.some.injEq, Prod.mk.injEq] at h
    cases hz : i.zero with
    | none => rw [hz] at h; cases h.1
    | some z =>
      rw [hz] at h
      simp only [Option.map_some, Option.some.injEq] at h
      exact ⟨i, z, rfl, hz, h.1, h.2.1, h.2.2⟩
def OwnN (w : World) (base : Nat) (v : Value) (LL : List Facts) : Prop :=
  ∃ vs : List Value, vs.length = LL.length ∧ w.ownsRow base 31 1 v LL.length vs ∧ ∀ i (hi : i < LL.length) (hv : i < vs.length), OwnF w 0 vs[i] LL[i]
theorem OwnN.kept {w w' : World} {base : Nat} {v : Value} {LL : List Facts} (h : OwnN w base v LL) (k : Kept w.heap.size w.heap.size w w') : OwnN w' base v LL := by
  obtain ⟨vs, hl, ho, hp⟩ := h
  refine ⟨vs, hl, ho.kept (row := none) ⟨k.os, k.tape, k.output, k.size, fun i hi _ => k.block i hi (by omega)⟩ (by cases hv : v.ownBlock <;> simp), fun i hi hv => (hp i hi hv).kept k (Nat.le_refl _)⟩
theorem OwnN.bk {w w' : World} {base b : Nat} {v : Value} {LL : List Facts} (h : OwnN w base v LL) (k : BkFr b w w') : OwnN w' base v LL := by
  obtain ⟨vs, hl, ho, hp⟩ := h
  refine ⟨vs, hl, ⟨ho.1, ?_⟩, fun i hi hv => (hp i hi hv).bk k⟩
  rcases ho.2 with h1 | ⟨g, cap, cur, rfl, hb2, hh, rest⟩
  · exact .inl h1
  · exact .inr ⟨g, cap, cur, rfl, hb2, k.oth _ _ _ _ hh (by decide) (by decide) (by decide), rest⟩
theorem OwnN.shape {w : World} {base : Nat} {v : Value} {LL : List Facts} (h : OwnN w base v LL) : ∃ ad c, v = .slice ad LL.length c := by
  obtain ⟨vs, hl, ho, hp⟩ := h
  rcases ho.2 with ⟨rfl, hn⟩ | ⟨g, cap, cur, rfl, _⟩
  · exact ⟨none, 0, by rw [hn]⟩
  · exact ⟨_, _, rfl⟩
theorem OwnN.lt {w : World} {base : Nat} {v : Value} {LL : List Facts} (h : OwnN w base v LL) : ∀ k, v.ownBlock = some k → base ≤ k ∧ k < w.heap.size := by
  obtain ⟨vs, hl, ho, hp⟩ := h
  exact ho.lt
/-- One of the rows. -/
theorem OwnN.at {w : World} {base : Nat} {ad : Option Addr} {n c : Nat} {LL : List Facts} (h : OwnN w base (.slice ad n c) LL) (i : Nat) (hi : i < LL.length) : ∃ g f, ad = some ⟨g, 0, none⟩ ∧ g < w.heap.size ∧ w.cell? ⟨g, i, none⟩ = some f ∧ OwnF w 0 f LL[i] := by
  obtain ⟨v, hv⟩ : ∃ v, v = Value.slice ad n c := ⟨_, rfl⟩
  rw [← hv] at h
  obtain ⟨vs, hl, ho, hp⟩ := h
  have hlt := ho.lt
  have h0 := ho
  rcases ho.2 with ⟨rfl, hn⟩ | ⟨g, cap, cur, rfl, hb, _⟩
  · omega
  · have hiv : i < vs.length := by omega
    have h1 := h0.cells (g := g) rfl i vs[i] (by simp)
    rw [Addr.add_lit, Nat.zero_add] at h1
    cases hv
    exact ⟨g, vs[i], rfl, (hlt g rfl).2, h1, hp i hi hiv⟩
/-- One of the facts of a row. -/
theorem OwnF.at {w : World} {base : Nat} {ad : Option Addr} {n c : Nat} {L : Facts} (h : OwnF w base (.slice ad n c) L) (i : Nat) (hi : i < L.length) : ∃ g a b, ad = some ⟨g, 0, none⟩ ∧ g < w.heap.size ∧ w.rangeAt g (i * 2) [a, b] ∧ Own w 0 a L[i].1 ∧ Own w 0 b L[i].2 := by
  obtain ⟨v, hv⟩ : ∃ v, v = Value.slice ad n c := ⟨_, rfl⟩
  rw [← hv] at h
  obtain ⟨ps, hl, ho, hp⟩ := h
  have hlt := ho.lt
  have h0 := ho
  rcases ho.2 with ⟨rfl, hn⟩ | ⟨g, cap, cur, rfl, hb, _⟩
  · omega
  · have hip : i < ps.length := by omega
    obtain ⟨a, b⟩ := pairs_at ps i hip
    obtain ⟨c, d⟩ := hp i hi hip
    have h1 := h0.cells (g := g) rfl (i * 2) _ a
    have h2 := h0.cells (g := g) rfl (i * 2 + 1) _ b
    rw [Addr.add_lit, Nat.zero_add] at h1 h2
    cases hv
    refine ⟨g, ps[i].1, ps[i].2, rfl, (hlt g rfl).2, fun j u hu => ?_, c, d⟩
    match j with
    | 0 => cases hu; exact h1
    | 1 => cases hu; exact h2
    | j + 2 => simp at hu
/-- A row of facts put behind the others. -/
theorem append_nn (w : World) (base : Nat) (v : Value) (LL : List Facts) (hown : OwnN w base v LL) (hbase : base ≤ w.heap.size) (b c : Nat) (f : Value) (F : Facts) (hf : OwnF w 0 f F) (hb : w.cell? ⟨b, 0, none⟩ = some f) (hl : LL.length < 1000000) :
    ∃ v' w', (Builtin.append_ #[32, 32] 32 #[v, .slice (some ⟨b, 0, none⟩) 1 c]).run Try.prog w = .ok v' w' ∧ OwnN w' base v' (LL ++ [F]) ∧ w.grownBy w' v.ownBlock ∧ StayG 31 w w' := by
  obtain ⟨i, z, hi, hz, hzs, hs, hby⟩ := rows_info
  obtain ⟨vs, hpl, ho, hp⟩ := hown
  obtain ⟨v', w', h1, h2, h3, _⟩ := run_append_own (P := Try.prog) w base 32 32 31 i z 1 24 Try.underlying32 hi hz hs hby hzs (by decide) v LL.length _ ho ⟨b, 0, none⟩ 1 c [f]
    rfl (fun j u hu => by
      rw [Addr.add_lit]
      match j with
      | 0 => cases hu; exact hb
      | j + 1 => simp at hu)
    (fun u hu => by
      simp at hu
      rw [hu]
      exact hf.oneCell) (by unfold maxLen; omega) (by omega) hbase
  have hst := StayG.grown ho h3
  refine ⟨v', w', h1, ⟨vs ++ [f], by simp [hpl], ?_, fun j hj hpj => ?_⟩, h3, hst⟩
  · rw [List.length_append, List.length_singleton]
    exact h2
  · rcases Nat.lt_or_ge j LL.length with h | h
    · rw [List.getElem_append_left (by omega), List.getElem_append_left h]
      exact (hp j h (by omega)).stayG hst (by decide) (by decide)
    · obtain rfl : j = LL.length := by simp at hj; omega
      have e1 : (vs ++ [f])[LL.length] = f := by rw [List.getElem_append_right (by omega)]; simp [hpl]
      have e2 : (LL ++ [F])[LL.length] = F := by rw [List.getElem_append_right (Nat.le_refl _)]; simp
      rw [e1, e2]
      exact hf.stayG hst (by decide) (by decide)

/-! ## Facts that are made of any slices. -/
theorem build_made5 (iad oad : Option Addr) (n m c c2 : Nat) (w : World) : (Instr.build 35 #[(0, .slice iad n c), (1, .slice oad m c2)]).run Try.prog w = .ok (.agg #[.slice iad n c, .slice oad m c2]) w := by kernel_rfl
theorem alloc_fact5 (w : World) : (Instr.alloc 35 true (.tuple #[])).run Try.prog w = .ok (.pointer (some ⟨w.heap.size, 0, none⟩)) (w.alloc (.cells #[.slice none 0 0, .slice none 0 0] 35)) := by kernel_rfl
theorem factInfo5 (a b : Value) : (Try.prog.info? 35).map (·.size) = some (#[a, b] : Array Value).size := by kernel_rfl
set_option maxRecDepth 100000 in
set_option maxHeartbeats 1600000 in
theorem made_any5 (oad iad : Option Addr) (m n c c2 : Nat) (w : World) : Calls Try.prog 8 #[.slice oad m c2, .slice iad n c] w fun e w' => e = .returned (.agg #[.slice iad n c, .slice oad m c2]) ∧ Kept w.heap.size w.heap.size w w' := by
  go_enter Try.func8, Try.ntmps8
  go_upto_region 0 with fail
  refine wp_region_lit ?_
  refine @wpL_alloc _ _ _ _ _ _ _ _ ?hw1 35 rfl _ (alloc_fact5 _) ?_
  case hw1 => kernel_rfl
  simp only [Act.put, List.setIfInBounds_toArray, List.set_cons_zero, List.set_cons_succ]
  have R1 := heap_new w (.cells #[.slice none 0 0, .slice none 0 0] 35)
  have k1 : Kept w.heap.size w.heap.size w (w.alloc (.cells #[.slice none 0 0, .slice none 0 0] 35)) := (Kept.refl _ _ _).alloc (Nat.le_refl _) _
  generalize w.alloc (.cells #[.slice none 0 0, .slice none 0 0] 35) = w1 at R1 k1 ⊢
  obtain ⟨rb, hrb⟩ : ∃ n, n = w.heap.size := ⟨_, rfl⟩
  have HRL : Hid (w.heap.size ≤ rb) := Lib.hid (Nat.le_of_eq hrb.symm)
  rw [← hrb] at R1
  (try rw [← hrb])
  clear hrb
  have R1' := Lib.hid R1
  have K1 := Lib.hid k1
  clear R1 k1
  go_upto_region 1 with fail
  refine wp_region_lit ?_
  refine @BigFrame.wpList_want _ _ _ _ _ _ _ ?hw2 ?_
  case hw2 => kernel_rfl
  intro K hK
  go_simp
  refine hK _ _ ?_
  clear hK K
  refine @BigFrame.wpList_want _ _ _ _ _ _ _ ?hw3 ?_
  case hw3 => kernel_rfl
  intro K hK
  go_simp
  refine hK _ _ ?_
  clear hK K
  refine @wpL_buildN _ _ _ _ _ _ _ ?hw4 35 _ rfl #[(0, .slice iad n c), (1, .slice oad m c2)] (by simp only [List.map_toArray, List.map_cons, List.map_nil]; rfl) _ (build_made5 _ _ _ _ _ _ _) ?_
  case hw4 => kernel_rfl
  simp only [Act.put, List.setIfInBounds_toArray, List.set_cons_zero, List.set_cons_succ]
  refine wpList_store_row rfl 35 _ _ rfl (rb) #[.slice iad n c, .slice oad m c2] rfl rfl 35 #[.slice none 0 0, .slice none 0 0] (R1'.out) (factInfo5 _ _) rfl (by kernel_rfl) ?_
  simp only [Act.put]
  have R9 := setRow_heap w1 rb _ #[.slice iad n c, .slice oad m c2] _ _ (R1'.out)
  have k9 : Kept w.heap.size w.heap.size w (w1.setRow rb #[.slice iad n c, .slice oad m c2]) := kept_setRow10 K1.out rb HRL.out _
  generalize w1.setRow rb #[.slice iad n c, .slice oad m c2] = w9 at R9 k9 ⊢
  go_wp2
  refine bodyPost_ret (results_cell_row rfl _ _ rb 35 #[.slice iad n c, .slice oad m c2] (0, 0) _ rfl R9 Try.underlying35 rfl (factInfo5 _ _)) rfl ?_
  exact ⟨rfl, k9⟩

/-! ## What operations of a region leave. -/
theorem Own.bk {w w' : World} {B b : Nat} {u : Value} {M : List (List UInt8)} (h : Own w B u M) (k : BkFr b w w') : Own w' B u M := by
  refine ⟨h.1, h.2.1, ?_⟩
  rcases h.2.2 with h1 | ⟨g, cap, cur, rfl, hb2, hh, rest⟩
  · exact .inl h1
  · exact .inr ⟨g, cap, cur, rfl, hb2, k.oth _ _ _ _ hh (by decide) (by decide) (by decide), rest⟩
theorem Own.shape {w : World} {B n : Nat} {u : Value} {M : List (List UInt8)} (h : Own w B u M) (hn : M.length = n) : ∃ ad c, u = .slice ad n c := by
  obtain ⟨_, ad, g, o, c, hv, _⟩ := h.hs
  exact ⟨ad, c, by rw [hv, hn]⟩
theorem own_one5 {w : World} {g : Nat} {x : List UInt8} (hx : x.length = 32) (h : w.heap[g]? = some (.cells (bcells x).toArray 25 (0, 0))) : Own w 0 (.slice (some ⟨g, 0, none⟩) 1 1) [x] :=
  ⟨fun y hy => by rw [List.mem_singleton.1 hy]; exact hx, by rw [bcells_length]; simp [hx], .inr ⟨g, 1, _, rfl, Nat.zero_le _, h, Nat.le_refl _, by unfold maxLen; omega, by rw [List.size_toArray, bcells_length, hx], by
    show (bcells x).toArray.toList.take 32 = bcells [x].flatten
    rw [List.take_of_length_le (by simp [bcells, hx])]
    simp⟩⟩
theorem own_two5 {w : World} {g : Nat} {x y : List UInt8} (hx : x.length = 32) (hy : y.length = 32) (h : w.heap[g]? = some (.cells ((bcells x).toArray ++ (bcells y).toArray) 25 (0, 0))) : Own w 0 (.slice (some ⟨g, 0, none⟩) 2 2) [x, y] :=
  ⟨fun z hz => by
    rcases List.mem_cons.1 hz with rfl | hz
    · exact hx
    · rw [List.mem_singleton.1 hz]; exact hy, by rw [bcells_length]; simp [hx, hy], .inr ⟨g, 2, _, rfl, Nat.zero_le _, h, Nat.le_refl _, by unfold maxLen; omega, by simp [bcells_length, hx, hy], by
    rw [List.take_of_length_le (by simp [bcells_length, hx, hy])]
    simp [bcells]⟩⟩
/-- A fact as a value; facts as a row just built. -/
def FVal (u : World) (v : Value) (f : List (List UInt8) × List (List UInt8)) : Prop := ∃ a b, v = .agg #[a, b] ∧ Own u 0 a f.1 ∧ Own u 0 b f.2
def FRow (u : World) (v : Value) (F : Facts) : Prop := ∃ (q : Nat) (ps : List (Value × Value)), v = .slice (some ⟨q, 0, none⟩) F.length F.length ∧ ps.length = F.length ∧ u.heap[q]? = some (.cells (ps.flatMap fun p : Value × Value => [p.1, p.2]).toArray 35 (0, 0)) ∧ ∀ i (hi : i < F.length) (hj : i < ps.length), Own u 0 ps[i].1 F[i].1 ∧ Own u 0 ps[i].2 F[i].2
inductive YK where
  | val (c : Value)
  | own (M : List (List UInt8))
  | fval (f : List (List UInt8) × List (List UInt8))
  | frow (F : Facts)
  | ownf (F : Facts)
  | any
def YK.at : YK → Value → World → Prop
  | .val c, v, _ => v = c
  | .own M, v, u => Own u 0 v M
  | .fval f, v, u => FVal u v f
  | .frow F, v, u => FRow u v F
  | .ownf F, v, u => OwnF u 0 v F
  | .any, _, _ => True
def ykAt (tb : List (Nat × YK)) (i : Nat) : YK := (tb.lookup i).getD .any
theorem FVal.bk {b : Nat} {u u' : World} {v : Value} {f : List (List UInt8) × List (List UInt8)} (h : FVal u v f) (k : BkFr b u u') : FVal u' v f := by
  obtain ⟨x, y, e, h1, h2⟩ := h
  exact ⟨x, y, e, h1.bk k, h2.bk k⟩
theorem FRow.bk {b : Nat} {u u' : World} {v : Value} {F : Facts} (h : FRow u v F) (k : BkFr b u u') : FRow u' v F := by
  obtain ⟨q, ps, e, h1, h2, h3⟩ := h
  exact ⟨q, ps, e, h1, k.oth _ _ _ _ h2 (by decide) (by decide) (by decide), fun i hi hj => ⟨(h3 i hi hj).1.bk k, (h3 i hi hj).2.bk k⟩⟩
theorem YK.bk {b : Nat} {u u' : World} {v : Value} : ∀ {y : YK}, y.at v u → BkFr b u u' → y.at v u'
  | .val _, h, _ => h
  | .own _, h, k => Own.bk h k
  | .fval _, h, k => FVal.bk h k
  | .frow _, h, k => FRow.bk h k
  | .ownf _, h, k => OwnF.bk h k
  | .any, _, _ => trivial
theorem frow_one {u : World} {q : Nat} {a b : Value} {f : List (List UInt8) × List (List UInt8)} (ya : Own u 0 a f.1) (yb : Own u 0 b f.2) (h : u.heap[q]? = some (.cells #[a, b] 35 (0, 0))) : FRow u (.slice (some ⟨q, 0, none⟩) 1 1) [f] :=
  ⟨q, [(a, b)], rfl, rfl, h, fun i hi hj => by
    obtain rfl : i = 0 := by simp at hi; omega
    exact ⟨ya, yb⟩⟩
theorem frow_three {u : World} {q : Nat} {a b c d x y : Value} {f g h : List (List UInt8) × List (List UInt8)} (ya : Own u 0 a f.1) (yb : Own u 0 b f.2) (yc : Own u 0 c g.1) (yd : Own u 0 d g.2) (yx : Own u 0 x h.1) (yy : Own u 0 y h.2) (hh : u.heap[q]? = some (.cells #[a, b, c, d, x, y] 35 (0, 0))) : FRow u (.slice (some ⟨q, 0, none⟩) 3 3) [f, g, h] :=
  ⟨q, [(a, b), (c, d), (x, y)], rfl, rfl, hh, fun i hi hj => by
    match i, hi, hj with
    | 0, _, _ => exact ⟨ya, yb⟩
    | 1, _, _ => exact ⟨yc, yd⟩
    | 2, _, _ => exact ⟨yx, yy⟩⟩
/-- Facts put behind none. -/
theorem FRow.append {u : World} {v : Value} {F : Facts} (h : FRow u v F) (hl : F.length < 1000) : ∃ v' u', (Builtin.append_ #[31, 31] 31 #[.slice none 0 0, v]).run Try.prog u = .ok v' u' ∧ OwnF u' 0 v' F ∧ Kept u.heap.size u.heap.size u u' := by
  obtain ⟨q, ps, rfl, h1, h2, h3⟩ := h
  obtain ⟨v', u', hr, ho, hg⟩ := append_facts u 0 (.slice none 0 0) [] (OwnF.nil _ _) (Nat.zero_le _) q F.length F.length ps F rfl h1 h3 (fun j x hx => cells_get h2 hx) (by simp; omega)
  exact ⟨v', u', hr, by simpa using ho, (Kept.refl _ _ _).grown hg (Nat.le_refl _) (fun k hk => by cases hk)⟩
theorem wp_append_known {P : Program} {o : Oper} {a : Act} {w w' : World} {v' : Value} {K : Act → World → Prop} {Q : Exit → Act → World → Prop} (s x : Operand) (t t' ty : TypeId) (hty : o.type = ty)
    (ho : o.op = .call { callee := .builtin .append, args := #[s, x], argTypes := #[t, t'] }) (v y : Value) (hs : a.eval s = v) (hx : a.eval x = y) (hr : (Builtin.append_ #[t, t'] ty #[v, y]).run P w = .ok v' w')
    (hk : K (a.put o.dst v') w') : o.wp P a w K Q := by
  subst hty
  unfold Oper.wp execOp
  simp only [ho, resolve, invoke, builtin, Sem.run_bind, Sem.run_pure, Result.andThen_ok, List.map_toArray, List.map_cons, List.map_nil, hs, hx, hr]
  exact hk

end Go.Proofs.Ytohichignjjleaa
