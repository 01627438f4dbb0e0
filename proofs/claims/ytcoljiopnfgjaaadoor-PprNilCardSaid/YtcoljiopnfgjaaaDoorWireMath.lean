/-
  Plain lists and numbers: how a number stands as bytes (1, 2, 4 or 8 of them, the two highest bits of the first telling how many), and how it is read back. No program is named here.
-/
namespace Go.Proofs.YtcoljiopnfgjaaaDoor.Wm

/-- The k lowest bytes of m, the highest first. -/
def be (m : Nat) : Nat → List UInt8
  | 0 => []
  | k + 1 => UInt8.ofNat (m / 256 ^ k) :: be m k

theorem be_length (m : Nat) : ∀ k, (be m k).length = k
  | 0 => rfl
  | k + 1 => by rw [be, List.length_cons, be_length m k]

/-- A number's bytes. -/
def enc (n : Nat) : List UInt8 :=
  if n < 64 then be n 1 else if n < 16384 then be (16384 + n) 2 else if n < 1073741824 then be (2147483648 + n) 4 else be (13835058055282163712 + n) 8

theorem enc_length_le (n : Nat) : (enc n).length ≤ 8 := by
  unfold enc
  split
  · rw [be_length]; omega
  · split
    · rw [be_length]; omega
    · split
      · rw [be_length]; omega
      · rw [be_length]; omega

/-- What bytes behind a number make of it. -/
def valOf (acc : Nat) (l : List UInt8) : Nat := l.foldl (fun n b => n * 256 + b.toNat) acc

theorem valOf_cons (acc : Nat) (b : UInt8) (l : List UInt8) : valOf acc (b :: l) = valOf (acc * 256 + b.toNat) l := rfl
theorem valOf_snoc (acc : Nat) (l : List UInt8) (b : UInt8) : valOf acc (l ++ [b]) = valOf acc l * 256 + b.toNat := by
  unfold valOf; rw [List.foldl_append]; rfl

theorem valOf_eq (l : List UInt8) : ∀ acc, valOf acc l = acc * 256 ^ l.length + valOf 0 l := by
  induction l with
  | nil => intro acc; simp [valOf]
  | cons b t ih =>
    intro acc
    rw [valOf_cons, valOf_cons, ih, ih (0 * 256 + b.toNat), List.length_cons, Nat.pow_succ, Nat.add_mul, Nat.zero_mul, Nat.zero_add, Nat.add_assoc, Nat.mul_assoc, Nat.mul_comm 256 (256 ^ t.length)]

theorem valOf_lt (l : List UInt8) : valOf 0 l < 256 ^ l.length := by
  induction l with
  | nil => simp [valOf]
  | cons b t ih =>
    rw [valOf_cons, valOf_eq, List.length_cons, Nat.pow_succ]
    have hb : b.toNat < 256 := b.toNat_lt
    have h1 : b.toNat * 256 ^ t.length ≤ 255 * 256 ^ t.length := Nat.mul_le_mul_right _ (by omega)
    rw [Nat.zero_mul, Nat.zero_add]
    omega

theorem be_mod (k : Nat) : ∀ (m a : Nat), be (a * 256 ^ k + m) k = be m k := by
  induction k with
  | zero => intro m a; rfl
  | succ k ih =>
    intro m a
    have hp : 0 < 256 ^ k := Nat.pow_pos (by decide)
    have e1 : a * 256 ^ (k + 1) + m = (a * 256) * 256 ^ k + m := by rw [Nat.pow_succ, Nat.mul_assoc, Nat.mul_comm 256 (256 ^ k)]
    rw [be, be, e1, ih]
    have e2 : (a * 256 * 256 ^ k + m) / 256 ^ k = a * 256 + m / 256 ^ k := by
      rw [Nat.add_comm, Nat.add_mul_div_right _ _ hp, Nat.add_comm]
    rw [e2]
    congr 1
    apply UInt8.toNat_inj.1
    rw [UInt8.toNat_ofNat', UInt8.toNat_ofNat']
    omega

/-- Bytes make a number whose bytes they are. -/
theorem be_valOf (l : List UInt8) : ∀ acc, be (valOf acc l) l.length = l := by
  induction l with
  | nil => intro acc; rfl
  | cons b t ih =>
    intro acc
    have hp : 0 < 256 ^ t.length := Nat.pow_pos (by decide)
    rw [List.length_cons, be, valOf_cons, ih]
    congr 1
    rw [valOf_eq]
    have hlt := valOf_lt t
    have e : ((acc * 256 + b.toNat) * 256 ^ t.length + valOf 0 t) / 256 ^ t.length = acc * 256 + b.toNat := by
      rw [Nat.add_comm, Nat.add_mul_div_right _ _ hp, Nat.div_eq_of_lt hlt, Nat.zero_add]
    rw [e]
    apply UInt8.toNat_inj.1
    rw [UInt8.toNat_ofNat']
    have hb : b.toNat < 256 := b.toNat_lt
    omega

/-- A number's bytes make the number. -/
theorem valOf_be (m : Nat) : ∀ k acc, valOf acc (be m k) = acc * 256 ^ k + m % 256 ^ k := by
  intro k
  induction k with
  | zero => intro acc; simp [be, valOf, Nat.mod_one]
  | succ k ih =>
    intro acc
    have e : m % (256 ^ k * 256) = m % 256 ^ k + 256 ^ k * (m / 256 ^ k % 256) := Nat.mod_mul
    have e2 : (UInt8.ofNat (m / 256 ^ k)).toNat = m / 256 ^ k % 256 := UInt8.toNat_ofNat'
    rw [be, valOf_cons, ih, e2, Nat.pow_succ, e, Nat.add_mul, Nat.mul_assoc, Nat.mul_comm 256 (256 ^ k), Nat.mul_comm (m / 256 ^ k % 256)]
    omega

/-- The greatest number of each of the four lengths. -/
def bnd : Nat → Nat
  | 0 => 63
  | 1 => 16383
  | 2 => 1073741823
  | _ => 4611686018427387903

/-- How many bytes stand behind the first. -/
def more (f : UInt8) : Nat := 2 ^ (f.toNat / 64) - 1

/-- The number whose first byte is f, the others t. -/
def nval (f : UInt8) (t : List UInt8) : Nat := valOf (f.toNat % 64) (t.take (more f))

theorem hdr_lt (f : UInt8) : f.toNat / 64 < 4 := by have := f.toNat_lt; omega
theorem hdr_cases (f : UInt8) : f.toNat / 64 = 0 ∨ f.toNat / 64 = 1 ∨ f.toNat / 64 = 2 ∨ f.toNat / 64 = 3 := by have := hdr_lt f; omega

theorem more_cases (f : UInt8) : (f.toNat / 64 = 0 ∧ more f = 0) ∨ (f.toNat / 64 = 1 ∧ more f = 1) ∨ (f.toNat / 64 = 2 ∧ more f = 3) ∨ (f.toNat / 64 = 3 ∧ more f = 7) := by
  rcases hdr_cases f with h | h | h | h <;> simp [more, h]

theorem nval_eq (f : UInt8) (t : List UInt8) (h : more f ≤ t.length) : nval f t = f.toNat % 64 * 256 ^ more f + valOf 0 (t.take (more f)) := by
  rw [nval, valOf_eq, List.length_take, Nat.min_eq_left h]

theorem nval_lt (f : UInt8) (t : List UInt8) (h : more f ≤ t.length) : nval f t < 64 * 256 ^ more f := by
  rw [nval_eq f t h]
  have h1 : f.toNat % 64 ≤ 63 := by omega
  have h2 := valOf_lt (t.take (more f))
  rw [List.length_take, Nat.min_eq_left h] at h2
  have h3 : f.toNat % 64 * 256 ^ more f ≤ 63 * 256 ^ more f := Nat.mul_le_mul_right _ h1
  omega

theorem nval_le (f : UInt8) (t : List UInt8) (h : more f ≤ t.length) : nval f t ≤ bnd (f.toNat / 64) := by
  have hl := nval_lt f t h
  rcases more_cases f with ⟨a, b⟩ | ⟨a, b⟩ | ⟨a, b⟩ | ⟨a, b⟩ <;> rw [b] at hl <;> rw [a] <;> simp only [bnd] <;> omega

theorem nval_max (f : UInt8) (t : List UInt8) (h : more f ≤ t.length) : nval f t ≤ 4611686018427387903 := by
  have := nval_le f t h
  rcases hdr_cases f with a | a | a | a <;> rw [a] at this <;> simp only [bnd] at this <;> omega

/-- Is it more than what a shorter form holds? -/
def least (f : UInt8) (t : List UInt8) : Bool := decide (f.toNat / 64 = 0 ∨ bnd (f.toNat / 64 - 1) < nval f t)

/-- A number that could not stand in fewer bytes has just the bytes of which it was read. -/
theorem enc_nval (f : UInt8) (t : List UInt8) (h : more f ≤ t.length) (hl : least f t = true) : enc (nval f t) = f :: t.take (more f) := by
  have hle := nval_le f t h
  have hgt : f.toNat / 64 = 0 ∨ bnd (f.toNat / 64 - 1) < nval f t := by simpa [least] using hl
  have hf := f.toNat_lt
  have hbe : be ((f.toNat / 64 * 64) * 256 ^ more f + nval f t) (more f + 1) = f :: t.take (more f) := by
    have e : (f.toNat / 64 * 64) * 256 ^ more f + nval f t = valOf 0 (f :: t.take (more f)) := by
      have e3 : f.toNat / 64 * 64 + f.toNat % 64 = f.toNat := by omega
      rw [valOf_cons, valOf_eq, List.length_take, Nat.min_eq_left h, nval_eq f t h, ← Nat.add_assoc, ← Nat.add_mul, e3, Nat.zero_mul, Nat.zero_add]
    have hlen : (f :: t.take (more f)).length = more f + 1 := by rw [List.length_cons, List.length_take, Nat.min_eq_left h]
    rw [e, ← hlen, be_valOf]
  rw [← hbe]
  generalize nval f t = n at hle hgt ⊢
  rcases more_cases f with ⟨a, b⟩ | ⟨a, b⟩ | ⟨a, b⟩ | ⟨a, b⟩ <;> rw [a] at hle hgt <;> simp only [bnd] at hle hgt <;> rw [a, b] <;> unfold enc
  · refine (if_pos (by omega)).trans ?_
    have e0 : 0 * 64 * 256 ^ 0 + n = n := by omega
    rw [e0]
  · rw [if_neg (by omega), if_pos (by omega)]
  · rw [if_neg (by omega), if_neg (by omega), if_pos (by omega)]
  · rw [if_neg (by omega), if_neg (by omega), if_neg (by omega)]

theorem enc_length (n : Nat) : (enc n).length = if n < 64 then 1 else if n < 16384 then 2 else if n < 1073741824 then 4 else 8 := by
  unfold enc
  repeat' split
  all_goals rw [be_length]

/-- One that could has others. -/
theorem enc_nval_ne (f : UInt8) (t : List UInt8) (h : more f ≤ t.length) (hl : least f t = false) : enc (nval f t) ≠ f :: t.take (more f) := by
  intro e
  have hgt : ¬ (f.toNat / 64 = 0 ∨ bnd (f.toNat / 64 - 1) < nval f t) := by simpa [least] using hl
  have e2 := congrArg List.length e
  rw [enc_length, List.length_cons, List.length_take, Nat.min_eq_left h] at e2
  generalize nval f t = n at hgt e2
  rcases more_cases f with ⟨a, b⟩ | ⟨a, b⟩ | ⟨a, b⟩ | ⟨a, b⟩
  · exact hgt (Or.inl a)
  all_goals
    have hle : n ≤ bnd (f.toNat / 64 - 1) := by omega
    rw [a] at hle
    simp only [bnd] at hle
    rw [b] at e2
    (repeat' split at e2) <;> omega

/-- Reading what was put: the first byte, how many stand behind it, the number, and that it is in its least form. -/
theorem enc_form (n : Nat) (hn : n ≤ 4611686018427387903) : ∃ f t, enc n = f :: t ∧ t.length = more f ∧ (∀ r, nval f (t ++ r) = n) ∧ (∀ r, least f (t ++ r) = true) := by
  have key : ∀ (k hd base : Nat), k = 2 ^ hd - 1 → hd < 4 → base = hd * 64 * 256 ^ k → n < 64 * 256 ^ k → (hd = 0 ∨ bnd (hd - 1) < n) →
      ∃ f t, be (base + n) (k + 1) = f :: t ∧ t.length = more f ∧ (∀ r, nval f (t ++ r) = n) ∧ (∀ r, least f (t ++ r) = true) := by
    intro k hd base hk hh hb hlt hbn
    have hp : 0 < 256 ^ k := Nat.pow_pos (by decide)
    have hdiv : (base + n) / 256 ^ k = hd * 64 + n / 256 ^ k := by
      rw [hb, Nat.add_comm, Nat.add_mul_div_right _ _ hp, Nat.add_comm]
    have hq : n / 256 ^ k < 64 := by rw [Nat.div_lt_iff_lt_mul hp]; exact hlt
    have a1 : ∀ q, q < 64 → (hd * 64 + q) % 256 = hd * 64 + q := fun q _ => by omega
    have a2 : ∀ q, q < 64 → (hd * 64 + q) / 64 = hd := fun q _ => by omega
    have a3 : ∀ q, q < 64 → (hd * 64 + q) % 64 = q := fun q _ => by omega
    have hf : (UInt8.ofNat ((base + n) / 256 ^ k)).toNat = hd * 64 + n / 256 ^ k := by
      rw [UInt8.toNat_ofNat', hdiv]
      exact a1 _ hq
    have hfd : (UInt8.ofNat ((base + n) / 256 ^ k)).toNat / 64 = hd := by rw [hf]; exact a2 _ hq
    have hfm : (UInt8.ofNat ((base + n) / 256 ^ k)).toNat % 64 = n / 256 ^ k := by rw [hf]; exact a3 _ hq
    have hmore : more (UInt8.ofNat ((base + n) / 256 ^ k)) = k := by rw [more, hfd, hk]
    have hval : ∀ r, nval (UInt8.ofNat ((base + n) / 256 ^ k)) (be (base + n) k ++ r) = n := by
      intro r
      rw [nval, hmore, List.take_left' (be_length _ _), valOf_be, hfm, hb, Nat.add_comm (hd * 64 * 256 ^ k), Nat.add_mul_mod_self_right, Nat.mul_comm]
      exact Nat.div_add_mod n (256 ^ k)
    refine ⟨_, _, rfl, by rw [be_length, hmore], hval, fun r => ?_⟩
    rw [least, hval, hfd]
    simpa using hbn
  unfold enc
  by_cases h1 : n < 64
  · rw [if_pos h1]
    have := key 0 0 0 rfl (by omega) rfl (by omega) (Or.inl rfl)
    rwa [Nat.zero_add] at this
  · rw [if_neg h1]
    by_cases h2 : n < 16384
    · rw [if_pos h2]
      exact key 1 1 16384 rfl (by omega) rfl (by omega) (Or.inr (by simp only [bnd]; omega))
    · rw [if_neg h2]
      by_cases h3 : n < 1073741824
      · rw [if_pos h3]
        exact key 3 2 2147483648 rfl (by omega) rfl (by omega) (Or.inr (by simp only [bnd]; omega))
      · rw [if_neg h3]
        exact key 7 3 13835058055282163712 rfl (by omega) rfl (by omega) (Or.inr (by simp only [bnd]; omega))

/-! ## What a reader does, on what is left and its error. -/

/-- What a call answers, what is left, the error behind it. -/
structure Got (α : Type) where
  val : α
  left : List UInt8
  err : Int

/-- A number: at most 'most'. -/
def rNum (l : List UInt8) (most : Int) : Got Int :=
  match l with
  | [] => ⟨0, [], 2⟩
  | f :: t => if t.length < more f then ⟨0, [], 2⟩ else if least f t = false then ⟨0, [], 3⟩ else if most < nval f t then ⟨0, [], 5⟩ else ⟨nval f t, t.drop (more f), 0⟩

/-- So many bytes. -/
def rRaw (l : List UInt8) (n : Nat) : Got (List UInt8) := if l.length < n then ⟨[], [], 2⟩ else ⟨l.take n, l.drop n, 0⟩

/-- A text. -/
def rText (l : List UInt8) (most : Int) : Got (List UInt8) :=
  if (rNum l (min most 65536)).err = 0 then rRaw (rNum l (min most 65536)).left (rNum l (min most 65536)).val.toNat else ⟨[], [], (rNum l (min most 65536)).err⟩

/-- A flag. -/
def rFlag (l : List UInt8) : Got Bool :=
  match l with
  | [] => ⟨false, [], 2⟩
  | f :: t => if 1 < f.toNat then ⟨false, [], 3⟩ else ⟨f.toNat == 1, t, 0⟩

theorem rNum_val (l : List UInt8) (most : Int) : 0 ≤ (rNum l most).val ∧ (rNum l most).val ≤ 4611686018427387903 := by
  unfold rNum
  split
  · exact ⟨by decide, by decide⟩
  · rename_i f t
    split
    · exact ⟨by decide, by decide⟩
    · split
      · exact ⟨by decide, by decide⟩
      · split
        · exact ⟨by decide, by decide⟩
        · have := nval_max f t (by omega)
          exact ⟨by show (0 : Int) ≤ (nval f t : Int); omega, by show (nval f t : Int) ≤ _; omega⟩

theorem rNum_le (l : List UInt8) (most : Int) : (rNum l most).err = 0 → (rNum l most).val ≤ most := by
  unfold rNum
  split
  · intro h; simp at h
  · rename_i f t
    split
    · intro h; simp at h
    · split
      · intro h; simp at h
      · split
        · intro h; simp at h
        · intro _
          show (nval f t : Int) ≤ most
          omega

/-- What failed has nothing left. -/
theorem rNum_fail (l : List UInt8) (most : Int) (h : (rNum l most).err ≠ 0) : (rNum l most).val = 0 ∧ (rNum l most).left = [] := by
  revert h
  unfold rNum
  split
  · simp
  · split
    · simp
    · split
      · simp
      · split
        · simp
        · simp

theorem rNum_len (l : List UInt8) (most : Int) : (rNum l most).left.length ≤ l.length := by
  unfold rNum
  split
  · simp
  · split
    · simp
    · split
      · simp
      · split
        · simp
        · simp; omega

/-- Reading a number that was put. -/
theorem rNum_enc (n : Nat) (hn : n ≤ 4611686018427387903) (r : List UInt8) (most : Int) (hm : (n : Int) ≤ most) : rNum (enc n ++ r) most = ⟨n, r, 0⟩ := by
  obtain ⟨f, t, he, hlen, hval, hleast⟩ := enc_form n hn
  rw [he, List.cons_append, rNum, hval, hleast, if_neg (by rw [List.length_append]; omega), if_neg (by simp), if_neg (by omega), List.drop_left' hlen]

/-- What a number was read of, if nothing failed. -/
theorem enc_rNum (l : List UInt8) (most : Int) (h : (rNum l most).err = 0) : l = enc (rNum l most).val.toNat ++ (rNum l most).left := by
  revert h
  unfold rNum
  split
  · simp
  · rename_i f t
    split
    · simp
    · split
      · simp
      · split
        · simp
        · intro _e
          rename_i h1 h2 _
          show f :: t = enc ((nval f t : Int)).toNat ++ t.drop (more f)
          rw [Int.toNat_natCast, enc_nval f t (by omega) (by simpa using h2), List.cons_append, List.take_append_drop]

end Go.Proofs.YtcoljiopnfgjaaaDoor.Wm
