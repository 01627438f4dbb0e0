/-
  ChgUnMath; ChgFil; ChgTake; ChgRefUn; ChgRead; ChgCatch; ChgUnpack; ChgId: several texts in one.
-/
import Derived.Test.YtcjcomeakkjiiaaDoorIA
import Derived.Test.YtcjcomeakkjiiaaDoorWireAll
import Derived.Test.YtcjcomeakkjiiaaDoorID
import Derived.Test.YtcjcomeakkjiiaaDoorIF
import Derived.WalkLawsBesides
import Derived.Defers
import Derived.Recover

namespace Go.Proofs.YtcjcomeakkjiiaaDoor
open Go.RowKit

namespace Cm
def r1 (l : List UInt8) : Wm.Got (List UInt8) := gHash l 0
def r2 (l : List UInt8) : Wm.Got Int := gNum (r1 l).left (r1 l).err 4611686018427387903
def r3 (l : List UInt8) : Wm.Got Int := gNum (r2 l).left (r2 l).err 64
def r4 (l : List UInt8) : Wm.Got Int := gNum (r3 l).left (r3 l).err 4611686018427387903
def r5 (l : List UInt8) : Wm.Got Int := gNum (r4 l).left (r4 l).err 3
def r6 (l : List UInt8) : Wm.Got Int := gNum (r5 l).left (r5 l).err 64
def r7 (l : List UInt8) : Wm.Got (List UInt8) := gHash (r6 l).left (r6 l).err
def r8 (l : List UInt8) : Wm.Got (List UInt8) := gHash (r7 l).left (r7 l).err
def rdErr (l : List UInt8) : Int := gEnd (r8 l).left (r8 l).err
def rdCg (l : List UInt8) : Cg := ⟨(r1 l).val, (r2 l).val, (r3 l).val, (r4 l).val, (r5 l).val, (r6 l).val, (r7 l).val, (r8 l).val⟩
def unErr (l : List UInt8) : Int := if rdErr l = 0 then (if right (rdCg l) = true then 0 else 3) else rdErr l
def unCg (l : List UInt8) : Cg := if unErr l = 0 then rdCg l else zero
theorem rdCg_ok (l : List UInt8) : (rdCg l).Ok := ⟨gHash_length _ _, gHash_length _ _, gHash_length _ _⟩
theorem gNum_back {l : List UInt8} {e m : Int} (h : (gNum l e m).err = 0) : e = 0 ∧ l = Wm.enc (gNum l e m).val.toNat ++ (gNum l e m).left := by
  unfold gNum at h ⊢
  by_cases he : e = 0
  · rw [if_pos he] at h ⊢
    exact ⟨he, Wm.enc_rNum l m h⟩
  · rw [if_neg he] at h
    exact absurd h he
theorem gHash_back {l : List UInt8} {e : Int} (h : (gHash l e).err = 0) : e = 0 ∧ l = (gHash l e).val ++ (gHash l e).left := by
  unfold gHash at h ⊢
  by_cases he : e = 0
  · rw [if_pos he] at h ⊢
    by_cases hl : l.length < 32
    · rw [if_pos hl] at h
      exact absurd h (by decide)
    · rw [if_neg hl]
      exact ⟨he, (List.take_append_drop 32 l).symm⟩
  · rw [if_neg he] at h
    exact absurd h he
theorem gEnd_back {l : List UInt8} {e : Int} (h : gEnd l e = 0) : e = 0 ∧ l = [] := by
  unfold gEnd at h
  by_cases he : e = 0
  · rw [if_pos he] at h
    by_cases hl : l = []
    · exact ⟨he, hl⟩
    · rw [if_neg hl] at h
      exact absurd h (by decide)
  · rw [if_neg he] at h
    exact absurd h he
theorem packed_back {l : List UInt8} (h : rdErr l = 0) : packed (rdCg l) = l := by
  obtain ⟨h8, e8⟩ := gEnd_back h
  obtain ⟨h7, e7⟩ := gHash_back (l := (r7 l).left) (e := (r7 l).err) h8
  obtain ⟨h6, e6⟩ := gHash_back (l := (r6 l).left) (e := (r6 l).err) h7
  obtain ⟨h5, e5⟩ := gNum_back (l := (r5 l).left) (e := (r5 l).err) (m := 64) h6
  obtain ⟨h4, e4⟩ := gNum_back (l := (r4 l).left) (e := (r4 l).err) (m := 3) h5
  obtain ⟨h3, e3⟩ := gNum_back (l := (r3 l).left) (e := (r3 l).err) (m := 4611686018427387903) h4
  obtain ⟨h2, e2⟩ := gNum_back (l := (r2 l).left) (e := (r2 l).err) (m := 64) h3
  obtain ⟨h1, e1⟩ := gNum_back (l := (r1 l).left) (e := (r1 l).err) (m := 4611686018427387903) h2
  obtain ⟨_, e0⟩ := gHash_back (l := l) (e := 0) h1
  have f7 : (r7 l).left = (r8 l).val := by rw [e7]; show (r8 l).val ++ (r8 l).left = _; rw [e8, List.append_nil]
  have f6 : (r6 l).left = (r7 l).val ++ (r7 l).left := e6
  have f5 : (r5 l).left = Wm.enc (r6 l).val.toNat ++ (r6 l).left := e5
  have f4 : (r4 l).left = Wm.enc (r5 l).val.toNat ++ (r5 l).left := e4
  have f3 : (r3 l).left = Wm.enc (r4 l).val.toNat ++ (r4 l).left := e3
  have f2 : (r2 l).left = Wm.enc (r3 l).val.toNat ++ (r3 l).left := e2
  have f1 : (r1 l).left = Wm.enc (r2 l).val.toNat ++ (r2 l).left := e1
  have f0 : l = (r1 l).val ++ (r1 l).left := e0
  show text (rdCg l) ++ (r8 l).val = l
  conv => rhs; rw [f0, f1, f2, f3, f4, f5, f6, f7]
  simp only [text, rdCg, List.append_assoc]
theorem gHash_put {x : List UInt8} (hx : x.length = 32) (r : List UInt8) : gHash (x ++ r) 0 = ⟨x, r, 0⟩ := by
  unfold gHash
  rw [if_pos rfl, if_neg (by rw [List.length_append]; omega), List.take_left' hx, List.drop_left' hx]
theorem gNum_put {n : Int} (h0 : 0 ≤ n) (h1 : n ≤ 4611686018427387903) {m : Int} (hm : n ≤ m) (r : List UInt8) : gNum (Wm.enc n.toNat ++ r) 0 m = ⟨n, r, 0⟩ := by
  unfold gNum
  rw [if_pos rfl, Wm.rNum_enc n.toNat (by omega) r m (by omega), Int.toNat_of_nonneg h0]
theorem read_packed {p : Cg} (ok : p.Ok) (h : right p = true) : rdErr (packed p) = 0 ∧ rdCg (packed p) = p := by
  obtain ⟨⟨d0, d1, q0, q1⟩, ⟨⟨a0, a1⟩, n0, n1⟩, hk⟩ := right_iff.1 h
  obtain ⟨k0, k3⟩ := kind_le hk
  have e : packed p = p.epoch ++ (Wm.enc p.depth.toNat ++ (Wm.enc p.author.toNat ++ (Wm.enc p.seq.toNat ++ (Wm.enc p.kind.toNat ++ (Wm.enc p.name.toNat ++ (p.pub ++ (p.sign ++ []))))))) := by
    simp only [packed, text, List.append_assoc, List.append_nil]
  have f1 := gHash_put ok.1 (Wm.enc p.depth.toNat ++ (Wm.enc p.author.toNat ++ (Wm.enc p.seq.toNat ++ (Wm.enc p.kind.toNat ++ (Wm.enc p.name.toNat ++ (p.pub ++ (p.sign ++ [])))))))
  rw [← e] at f1
  have f2 := gNum_put d0 d1 d1 (Wm.enc p.author.toNat ++ (Wm.enc p.seq.toNat ++ (Wm.enc p.kind.toNat ++ (Wm.enc p.name.toNat ++ (p.pub ++ (p.sign ++ []))))))
  have f3 := gNum_put (n := p.author) (by omega) (by omega) a1 (Wm.enc p.seq.toNat ++ (Wm.enc p.kind.toNat ++ (Wm.enc p.name.toNat ++ (p.pub ++ (p.sign ++ [])))))
  have f4 := gNum_put (n := p.seq) (by omega) q1 q1 (Wm.enc p.kind.toNat ++ (Wm.enc p.name.toNat ++ (p.pub ++ (p.sign ++ []))))
  have f5 := gNum_put (n := p.kind) (by omega) (by omega) k3 (Wm.enc p.name.toNat ++ (p.pub ++ (p.sign ++ [])))
  have f6 := gNum_put (n := p.name) (by omega) (by omega) n1 (p.pub ++ (p.sign ++ []))
  have f7 := gHash_put ok.2.1 (p.sign ++ [])
  have f8 := gHash_put ok.2.2 []
  have g1 := (show r1 (packed p) = gHash (packed p) 0 from rfl)
  rw [f1] at g1
  have g2 := (show r2 (packed p) = gNum (r1 (packed p)).left (r1 (packed p)).err 4611686018427387903 from rfl)
  rw [g1] at g2
  dsimp only at g2
  rw [f2] at g2
  have g3 := (show r3 (packed p) = gNum (r2 (packed p)).left (r2 (packed p)).err 64 from rfl)
  rw [g2] at g3
  dsimp only at g3
  rw [f3] at g3
  have g4 := (show r4 (packed p) = gNum (r3 (packed p)).left (r3 (packed p)).err 4611686018427387903 from rfl)
  rw [g3] at g4
  dsimp only at g4
  rw [f4] at g4
  have g5 := (show r5 (packed p) = gNum (r4 (packed p)).left (r4 (packed p)).err 3 from rfl)
  rw [g4] at g5
  dsimp only at g5
  rw [f5] at g5
  have g6 := (show r6 (packed p) = gNum (r5 (packed p)).left (r5 (packed p)).err 64 from rfl)
  rw [g5] at g6
  dsimp only at g6
  rw [f6] at g6
  have g7 := (show r7 (packed p) = gHash (r6 (packed p)).left (r6 (packed p)).err from rfl)
  rw [g6] at g7
  dsimp only at g7
  rw [f7] at g7
  have g8 := (show r8 (packed p) = gHash (r7 (packed p)).left (r7 (packed p)).err from rfl)
  rw [g7] at g8
  dsimp only at g8
  rw [f8] at g8
  refine ⟨by rw [rdErr, g8]; rfl, ?_⟩
  rw [rdCg, g1, g2, g3, g4, g5, g6, g7, g8]
theorem un_packed {p : Cg} (ok : p.Ok) (h : right p = true) : unErr (packed p) = 0 ∧ unCg (packed p) = p := by
  obtain ⟨h1, h2⟩ := read_packed ok h
  have h3 : unErr (packed p) = 0 := by rw [unErr, if_pos h1, h2, if_pos h]
  exact ⟨h3, by rw [unCg, if_pos h3, h2]⟩
theorem un_right {l : List UInt8} (h : unErr l = 0) : right (unCg l) = true ∧ packed (unCg l) = l := by
  have h0 : rdErr l = 0 ∧ right (rdCg l) = true := by
    unfold unErr at h
    by_cases h1 : rdErr l = 0
    · rw [if_pos h1] at h
      by_cases h2 : right (rdCg l) = true
      · exact ⟨h1, h2⟩
      · rw [if_neg h2] at h; exact absurd h (by decide)
    · rw [if_neg h1] at h; exact absurd h h1
  rw [unCg, if_pos h]
  exact ⟨h0.2, packed_back h0.1⟩
theorem unCg_ok (l : List UInt8) : (unCg l).Ok := by
  unfold unCg
  split
  · exact rdCg_ok l
  · exact zero_ok
end Cm
end Go.Proofs.YtcjcomeakkjiiaaDoor

namespace Go.Proofs.YtcjcomeakkjiiaaDoor
open Go.RowKit Go.Lib

theorem rangeAt_kept10 {base b : Nat} {w w' : World} (k : Kept base b w w') {g o : Nat} {cs : List Value} (h : w.rangeAt g o cs) (hg : g < base) (hb : g ≠ b) : w'.rangeAt g o cs := fun j v hv => (k.cell (p := ⟨g, o + j, none⟩) hg hb).trans (h j v hv)
theorem size_setCells10 (b : Nat) : ∀ (vs : List Value) (o : Nat) (x : World), (x.setCells b o vs).heap.size = x.heap.size
  | [], _, _ => rfl
  | v :: r, o, x => by rw [World.setCells, size_setCells10 b r]; simp [World.setCell]
theorem kept_setCells2 {w : World} (b c : Nat) (hb : w.heap.size ≤ b) : ∀ (vs : List Value) (o : Nat) (x : World), Kept w.heap.size c w x → Kept w.heap.size c w (x.setCells b o vs)
  | [], _, _, h => h
  | v :: r, o, _, h => kept_setCells2 b c hb r (o + 1) _ (h.set (.inr hb) o v)
/-- A proposal of which so many cells are laid. -/
structure Fil (w : World) (pb : Nat) (pre : List Value) : Prop where
  rng : w.rangeAt pb 0 pre
  thr : w.there pb 0 101
theorem Fil.lt {w : World} {pb : Nat} {pre : List Value} (h : Fil w pb pre) : pb < w.heap.size := by
  obtain ⟨v, hv⟩ := Option.isSome_iff_exists.1 (h.thr 0 (by omega)).1
  exact World.block_lt_of_cell? _ _ hv
theorem Fil.kept {w x : World} {pb base b : Nat} {pre : List Value} (h : Fil w pb pre) (k : Kept base b w x) (h1 : pb < base) (h2 : pb ≠ b) : Fil x pb pre :=
  ⟨rangeAt_kept10 k h.rng h1 h2, fun j hj => by
    obtain ⟨a, b⟩ := h.thr j hj
    exact ⟨by rw [k.cell (p := ⟨pb, 0 + j, none⟩) h1 h2]; exact a, by rw [k.frozen (p := ⟨pb, 0 + j, none⟩) h1 h2]; exact b⟩⟩
theorem Fil.put {w : World} {pb : Nat} {pre : List Value} (h : Fil w pb pre) (vs : List Value) (o : Nat) (ho : o = pre.length) (hn : pre.length + vs.length ≤ 101) : Fil (w.setCells pb o vs) pb (pre ++ vs) := by
  subst ho
  refine ⟨range_append (World.rangeAt_setCells_apart h.rng _ _ _ (.inr (.inl (by omega)))) ?_, World.there_setCells h.thr _ _ _⟩
  rw [Nat.zero_add]
  exact World.rangeAt_setCells_same _ _ _ _ (fun j hj => by
    have := h.thr (pre.length + j) (by omega)
    rwa [Nat.zero_add] at this)
theorem Fil.there {w : World} {pb : Nat} {pre : List Value} (h : Fil w pb pre) (o n : Nat) (hn : o + n ≤ 101) : w.there pb o n := fun j hj => by
  have := h.thr (o + j) (by omega)
  rwa [Nat.zero_add] at this
theorem fil_zero {w : World} {pb : Nat} (h : w.heap[pb]? = some (.cells Cm.zero.cells.toArray 27 (0, 0))) : Fil w pb [] :=
  ⟨fun j v hj => (by cases hj), there_of_row h (by rw [Cg.size Cm.zero_ok]; omega)⟩
section
variable {P : Program} {ops : Array Oper} {rest : List Oper} {o : Oper} {a : Act} {w : World} {Q : Exit → Act → World → Prop}
theorem run_store_one (w : World) (ty : TypeId) (b k : Nat) (v : Value) (ht : w.there b k 1) (hv : v.oneCell' = true) (hi : (P.info? ty).map (·.size) = some 1) : (storeVar ty ⟨b, k, none⟩ v).run P w = .ok () (w.setCells b k [v]) := by
  have h0 := ht 0 (by omega)
  have hst := run_storeCells_cells (P := P) b k [v] 0 w (fun j hj => by
      obtain rfl : j = 0 := by simpa using hj
      simpa using h0.1) (fun j hj => by
      obtain rfl : j = 0 := by simpa using hj
      simpa using h0.2) (fun x hx => by rw [List.mem_singleton.1 hx]; exact hv)
  have hcs : v.cells = #[v] := by cases v <;> first | rfl | cases hv
  cases hq : P.info? ty with
  | none => simp [hq] at hi
  | some i =>
    have hs : i.size = 1 := by simpa [hq] using hi
    simp [storeVar, sizeOf, typeInfo, hq, hcs, hs, hst, World.setCells]
theorem wpL_store_one (hw : Region.wanted o (yielded ops a.tmps) = true) (ty : TypeId) (x y : Operand) (ho : o.op = .store ty x y) (b k : Nat) (v : Value) (hx : a.eval x = .pointer (some ⟨b, k, none⟩)) (hy : a.eval y = v)
    (ht : w.there b k 1) (hv : v.oneCell' = true) (hi : (P.info? ty).map (·.size) = some 1) (hq : wpList P ops Q rest (a.put o.dst undef) (w.setCells b k [v])) : wpList P ops Q (o :: rest) a w := by
  refine wpList_step fun K hK => ?_
  rw [if_pos hw]
  have hrun := run_store_one (P := P) w ty b k v ht hv hi
  unfold Oper.wp execOp
  simp only [ho, hx, hy, Instr.storeAt, Instr.sureAddr, Sem.run_bind, Sem.run_pure, Result.andThen_ok, hrun]
  exact hK _ _ hq
theorem wpL_store_mid10 (hw : Region.wanted o (yielded ops a.tmps) = true) (ty : TypeId) (x y : Operand) (ho : o.op = .store ty x y) (b k : Nat) (cells : Array Value) (hx : a.eval x = .pointer (some ⟨b, k, none⟩)) (hy : a.eval y = .agg cells)
    (ht : w.there b k cells.size) (hi : (P.info? ty).map (·.size) = some cells.size) (h1 : cells.all (·.oneCell') = true) (hq : wpList P ops Q rest (a.put o.dst undef) (w.setCells b k cells.toList)) : wpList P ops Q (o :: rest) a w := by
  refine wpList_step fun K hK => ?_
  rw [if_pos hw]
  exact wp_store_mid ty x y ho b k cells hx hy ht hi h1 (hK _ _ hq)
end
theorem hashSz10 {l : List UInt8} (h : l.length = 32) : (Tryd.prog.info? 23).map (·.size) = some (bcells l).toArray.size := by have := hashInfo10 h; simpa using this

/-- The landed reader at block b, and a proposal at pb that is being filled, since w0. -/
structure Re (w0 : World) (rb b pb : Nat) (l : List UInt8) (e : Int) (pre : List Value) (w : World) : Prop where
  rd : Rd w (b + 1) b l e
  tab : Tab w
  kp : Kept w0.heap.size w0.heap.size w0 w
  fil : Fil w pb pre
  res : w.heap[rb]? = some (.cells Cm.zero.cells.toArray 27 (0, 0))
  b0 : 0 < b
  s1 : rb ≠ b
  s2 : rb ≠ pb
  s3 : b + 1 ≤ pb
  s4 : w0.heap.size ≤ b
  s5 : w0.heap.size ≤ pb
section
variable {w0 w w' : World} {rb b pb : Nat} {l : List UInt8} {e : Int} {pre : List Value}
theorem Re.step (h : Re w0 rb b pb l e pre w) {l2 : List UInt8} {e2 : Int} (hr : Rd w' (b + 1) b l2 e2) (k : Kept w.heap.size b w w') : Re w0 rb b pb l2 e2 pre w' := by
  have hb := h.b0
  have h4 := h.s4
  have hs := h.kp.size
  have hlt := h.fil.lt
  have hne := h.s3
  refine ⟨hr, h.tab.kept k h.tab.lt hb, h.kp.trans (k.mono hs (fun i hi _ => by omega)), h.fil.kept k hlt (by omega), ?_, hb, h.s1, h.s2, h.s3, h.s4, h.s5⟩
  exact (k.block rb (lt_of_block h.res) h.s1).trans h.res
theorem Re.num (h : Re w0 rb b pb l e pre w) (most : Int) : Calls Tryd.prog 59 #[.pointer (some ⟨b, 0, none⟩), .int .i64 most] w fun e' w' => e' = .returned (.int .i64 (gNum l e most).val) ∧ Re w0 rb b pb (gNum l e most).left (gNum l e most).err pre w' := by
  refine (num_all (b + 1) b l e most w h.rd h.tab h.b0).mono ?_
  rintro e' w' ⟨rfl, hr, k⟩
  exact ⟨rfl, h.step hr k⟩
theorem Re.hash (h : Re w0 rb b pb l e pre w) : Calls Tryd.prog 58 #[.pointer (some ⟨b, 0, none⟩)] w fun e' w' => e' = .returned (.agg (bcells (gHash l e).val).toArray) ∧ Re w0 rb b pb (gHash l e).left (gHash l e).err pre w' := by
  refine (hash_all (b + 1) b l e w h.rd).mono ?_
  rintro e' w' ⟨rfl, hr, k⟩
  exact ⟨rfl, h.step hr k⟩
theorem Re.put (h : Re w0 rb b pb l e pre w) (vs : List Value) (o : Nat) (ho : o = pre.length) (hn : pre.length + vs.length ≤ 101) : Re w0 rb b pb l e (pre ++ vs) (w.setCells pb o vs) := by
  have hk := kept_setCells (w := w0) pb h.s5 vs o w h.kp
  have h3 := h.s3
  have hb : ∀ i, i ≠ pb → (w.setCells pb o vs).heap[i]? = w.heap[i]? := fun i hi => heap_setCells10 hi vs o w
  refine ⟨h.rd.same ?_ (fun k hk => hb k (by omega)), h.tab.same (hb 0 (by omega)), hk, h.fil.put vs o ho hn, (hb rb h.s2).trans h.res, h.b0, h.s1, h.s2, h.s3, h.s4, h.s5⟩
  have := size_setCells10 pb vs o w
  omega
end
/-- The document's reader at block b, and a proposal at pb that is being filled, since w0. -/
structure Rq (w0 : World) (rb b pb : Nat) (l : List UInt8) (e : Int) (pre : List Value) (w : World) : Prop where
  rd : Rf w b l e
  kp : Kept w0.heap.size b w0 w
  fil : Fil w pb pre
  res : w.heap[rb]? = some (.cells Cm.zero.cells.toArray 27 (0, 0))
  s1 : rb ≠ b
  s2 : rb ≠ pb
  s3 : b ≠ pb
  s5 : w0.heap.size ≤ pb
section
variable {w0 w w' : World} {rb b pb : Nat} {l : List UInt8} {e : Int} {pre : List Value}
theorem Rq.step (h : Rq w0 rb b pb l e pre w) {l2 : List UInt8} {e2 : Int} (hr : Rf w' b l2 e2) (k : Kept w.heap.size b w w') : Rq w0 rb b pb l2 e2 pre w' := by
  have hs := h.kp.size
  have hlt := h.fil.lt
  refine ⟨hr, h.kp.trans (k.mono hs (fun i hi hne => hne)), h.fil.kept k hlt (Ne.symm h.s3), ?_, h.s1, h.s2, h.s3, h.s5⟩
  exact (k.block rb (lt_of_block h.res) h.s1).trans h.res
theorem Rq.num (h : Rq w0 rb b pb l e pre w) (most : Int) : Calls Tryd.prog 64 #[.pointer (some ⟨b, 0, none⟩), .int .i64 most] w fun e' w' => e' = .returned (.int .i64 (gNum l e most).val) ∧ Rq w0 rb b pb (gNum l e most).left (gNum l e most).err pre w' := by
  refine (numrd_all b l e most w h.rd).mono ?_
  rintro e' w' ⟨rfl, hr, k⟩
  exact ⟨rfl, h.step hr k⟩
theorem Rq.hash (h : Rq w0 rb b pb l e pre w) : Calls Tryd.prog 63 #[.pointer (some ⟨b, 0, none⟩)] w fun e' w' => e' = .returned (.agg (bcells (gHash l e).val).toArray) ∧ Rq w0 rb b pb (gHash l e).left (gHash l e).err pre w' := by
  refine (hashrd_all b l e w h.rd).mono ?_
  rintro e' w' ⟨rfl, hr, k⟩
  exact ⟨rfl, h.step hr k⟩
theorem Rq.put (h : Rq w0 rb b pb l e pre w) (vs : List Value) (o : Nat) (ho : o = pre.length) (hn : pre.length + vs.length ≤ 101) : Rq w0 rb b pb l e (pre ++ vs) (w.setCells pb o vs) := by
  have hb : ∀ i, i ≠ pb → (w.setCells pb o vs).heap[i]? = w.heap[i]? := fun i hi => heap_setCells10 hi vs o w
  have hk := kept_setCells2 pb b h.s5 vs o w h.kp
  exact ⟨h.rd.same (hb b h.s3), hk, h.fil.put vs o ho hn, (hb rb h.s2).trans h.res, h.s1, h.s2, h.s3, h.s5⟩
end

end Go.Proofs.YtcjcomeakkjiiaaDoor

namespace Go.Proofs.YtcjcomeakkjiiaaDoor
open Go.RowKit Go.Lib

theorem results_row2c {P : Program} {fn : Func} {p u : Tmp} {ty : TypeId} (h : fn.results = #[.cell p ty, .tmp u]) (tmps : Array Value) (w : World) (g : Nat) (t : TypeId) (cs : Array Value) (fr : Nat × Nat) (d : TypeDesc)
    (hp : tmps.getD p undef = .pointer (some ⟨g, 0, none⟩)) (hg : w.heap[g]? = some (.cells cs t fr))
    (hu : P.underlying ty = some d) (hd : (match d with | .struct _ | .array _ _ => true | _ => false) = true) (hi : (P.info? ty).map (·.size) = some cs.size) :
    (results fn tmps).run P w = .ok (.tuple #[.agg cs, tmps.getD u undef]) w := by
  have hp' : tmps[p]?.getD undef = .pointer (some ⟨g, 0, none⟩) := by simpa using hp
  simp [results, h, hp', asAddr, run_loadVar_row w g t ty cs fr d hg hu hd hi]
theorem wp_store_row_none10 {P : Program} {o : Oper} {a : Act} {w : World} {K : Act → World → Prop} {Q : Exit → Act → World → Prop} (ty : TypeId) (x y : Operand) (ho : o.op = .store ty x y) (hd : o.dst = none) (g : Nat) (cells : Array Value) (hx : a.eval x = .pointer (some ⟨g, 0, none⟩)) (hy : a.eval y = .agg cells)
    (t : TypeId) (old : Array Value) (hg : w.heap[g]? = some (.cells old t (0, 0))) (hi : (P.info? ty).map (·.size) = some cells.size) (hold : old.size = cells.size) (h1 : cells.all (·.oneCell') = true)
    (h : K a (w.setRow g cells)) : o.wp P a w K Q :=
  wp_store_row ty x y ho g cells hx hy t old hg hi hold h1 (by rw [hd]; exact h)
theorem kept_setRow10 {w w1 : World} {c : Nat} (k : Kept w.heap.size c w w1) (rb : Nat) (h : w.heap.size ≤ rb) (cs : Array Value) : Kept w.heap.size c w (w1.setRow rb cs) :=
  k.trans ⟨rfl, rfl, rfl, by simp [World.setRow], fun i hi _ => setRow_other w1 rb i cs (by omega)⟩

set_option maxRecDepth 100000 in
set_option maxHeartbeats 6400000 in
theorem reftake_calls10 (b : Nat) (L : List UInt8) (w : World) (h0 : Rf w b L 0) : Calls Tryd.prog 38 #[.pointer (some ⟨b, 0, none⟩)] w fun e w' => e = .returned (.tuple #[.agg (Cm.rdCg L).cells.toArray, .bool (Cm.right (Cm.rdCg L))]) ∧ Rf w' b (Cm.r8 L).left (Cm.r8 L).err ∧ Kept w.heap.size b w w' := by
  have H0 := Lib.hid h0
  have HZ0 := Lib.hid build_cg0
  have HZI := Lib.hid (cgInfo (Cg.size Cm.zero_ok))
  have HZA := Lib.hid Cm.zero.all
  clear h0
  go_enter Tryd.func38, Tryd.ntmps38
  go_upto_region 0 with fail
  refine wp_region_lit ?_
  refine @wpL_alloc _ _ _ _ _ _ _ _ ?hw78001 27 rfl _ (alloc_cg _) ?_
  case hw78001 => kernel_rfl
  simp only [Act.put, List.setIfInBounds_toArray, List.set_cons_zero, List.set_cons_succ]
  have k1 : Kept w.heap.size w.heap.size w (w.alloc (.cells Cm.zero.cells.toArray 27)) := (Kept.refl _ _ _).alloc (Nat.le_refl _) _
  have r1 := heap_new w (.cells Cm.zero.cells.toArray 27)
  have z1 : (w.alloc (.cells Cm.zero.cells.toArray 27)).heap.size = w.heap.size + 1 := by simp
  have HRF := Lib.hid (H0.out.alloc (.cells Cm.zero.cells.toArray 27))
  generalize w.alloc (.cells Cm.zero.cells.toArray 27) = w1 at k1 r1 z1 HRF ⊢
  obtain ⟨rb, hrb⟩ : ∃ n, n = w.heap.size := ⟨_, rfl⟩
  rw [← hrb] at r1
  (try rw [← hrb])
  have HRB := Lib.hid hrb
  have HZ1 := Lib.hid z1
  have HK1 := Lib.hid k1
  have HR1 := Lib.hid r1
  clear hrb z1 k1 r1
  refine @BigFrame.wpList_want _ _ _ _ _ _ _ ?hw78002 ?_
  case hw78002 => kernel_rfl
  intro K hK
  go_simp
  refine hK _ _ ?_
  clear hK K
  go_upto_region 1 with fail
  refine wp_region_lit ?_
  refine @wpL_build0 _ _ _ _ _ _ _ ?hw78003 27 rfl _ (HZ0.out _) ?_
  case hw78003 => kernel_rfl
  simp only [Act.put, List.setIfInBounds_toArray, List.set_cons_zero, List.set_cons_succ]
  refine @wpL_alloc _ _ _ _ _ _ _ _ ?hw78004 27 rfl _ (alloc_cg _) ?_
  case hw78004 => kernel_rfl
  simp only [Act.put, List.setIfInBounds_toArray, List.set_cons_zero, List.set_cons_succ]
  refine wpList_store_row rfl 27 _ _ rfl (w1.heap.size) Cm.zero.cells.toArray rfl rfl 27 Cm.zero.cells.toArray (heap_new _ _) (HZI.out) (rfl) (HZA.out) ?_
  simp only [Act.put]
  rw [World.setRow_alloc_new]
  have U0 : Hid (Rq w rb b w1.heap.size L 0 [] (w1.alloc (.cells Cm.zero.cells.toArray 27))) := Lib.hid (by
    have h1 := HRB.out
    have h2 := HZ1.out
    have h3 := H0.out.lt
    refine ⟨HRF.out.alloc _, ?_, fil_zero (heap_new _ _), row_kept HR1.out ((Kept.refl _ _ _).alloc (Nat.le_refl _) _), by omega, by omega, by omega, by omega⟩
    exact (HK1.out.onto ((Kept.refl _ _ _).alloc (Nat.le_refl _) _)).mono (Nat.le_refl _) (fun i hi _ => Nat.ne_of_lt hi))
  generalize w1.alloc (.cells Cm.zero.cells.toArray 27) = w3 at U0 ⊢
  obtain ⟨pb, hpb⟩ : ∃ n, n = w1.heap.size := ⟨_, rfl⟩
  rw [← hpb] at U0
  (try rw [← hpb])
  have HRW := Lib.hid (show w.heap.size ≤ rb by have := HRB.out; omega)
  clear hpb HRF HK1 HR1 HZ1 HRB H0
  obtain ⟨p1, hp1⟩ : ∃ p, p = ([] : List Value) ++ bcells (Cm.r1 L).val := ⟨_, rfl⟩
  obtain ⟨p2, hp2⟩ : ∃ p, p = p1 ++ [.int .i64 (Cm.r2 L).val] := ⟨_, rfl⟩
  obtain ⟨p3, hp3⟩ : ∃ p, p = p2 ++ [.int .i64 (Cm.r3 L).val] := ⟨_, rfl⟩
  obtain ⟨p4, hp4⟩ : ∃ p, p = p3 ++ [.int .i64 (Cm.r4 L).val] := ⟨_, rfl⟩
  obtain ⟨p5, hp5⟩ : ∃ p, p = p4 ++ [.int .i64 (Cm.r5 L).val] := ⟨_, rfl⟩
  obtain ⟨p6, hp6⟩ : ∃ p, p = p5 ++ [.int .i64 (Cm.r6 L).val] := ⟨_, rfl⟩
  obtain ⟨p7, hp7⟩ : ∃ p, p = p6 ++ bcells (Cm.r7 L).val := ⟨_, rfl⟩
  obtain ⟨p8, hp8⟩ : ∃ p, p = p7 ++ bcells (Cm.r8 L).val := ⟨_, rfl⟩
  have hl1 : (bcells (Cm.r1 L).val).length = 32 := by rw [bcells_length]; exact gHash_length _ _
  have hl7 : (bcells (Cm.r7 L).val).length = 32 := by rw [bcells_length]; exact gHash_length _ _
  have hl8 : (bcells (Cm.r8 L).val).length = 32 := by rw [bcells_length]; exact gHash_length _ _
  have n1 : p1.length = 32 := by rw [hp1, List.nil_append]; exact hl1
  have n2 : p2.length = 33 := by rw [hp2, List.length_append, n1]; rfl
  have n3 : p3.length = 34 := by rw [hp3, List.length_append, n2]; rfl
  have n4 : p4.length = 35 := by rw [hp4, List.length_append, n3]; rfl
  have n5 : p5.length = 36 := by rw [hp5, List.length_append, n4]; rfl
  have n6 : p6.length = 37 := by rw [hp6, List.length_append, n5]; rfl
  have n7 : p7.length = 69 := by rw [hp7, List.length_append, n6, hl7]
  have HEND : Hid (p8 = (Cm.rdCg L).cells) := Lib.hid (by
    rw [hp8, hp7, hp6, hp5, hp4, hp3, hp2, hp1]
    simp [Cg.cells, Cg.mid, Cg.chg, Cm.rdCg])
  have S1 := Lib.hid (fun (x : World) (h : Rq w rb b pb L 0 ([] : List Value) x) => (show Calls Tryd.prog 63 #[.pointer (some ⟨b, 0, none⟩)] x fun e' w' => e' = .returned (.agg (bcells (Cm.r1 L).val).toArray) ∧ Rq w rb b pb (Cm.r1 L).left (Cm.r1 L).err ([] : List Value) w' from h.hash))
  have T1 := Lib.hid (fun (x : World) (h : Rq w rb b pb (Cm.r1 L).left (Cm.r1 L).err ([] : List Value) x) => (show Rq w rb b pb (Cm.r1 L).left (Cm.r1 L).err p1 (x.setCells pb 0 (bcells (Cm.r1 L).val)) from by rw [hp1]; exact h.put _ _ (rfl) (by rw [hl1]; decide)))
  have S2 := Lib.hid (fun (x : World) (h : Rq w rb b pb (Cm.r1 L).left (Cm.r1 L).err p1 x) => (show Calls Tryd.prog 64 #[.pointer (some ⟨b, 0, none⟩), .int .i64 4611686018427387903] x fun e' w' => e' = .returned (.int .i64 (Cm.r2 L).val) ∧ Rq w rb b pb (Cm.r2 L).left (Cm.r2 L).err p1 w' from h.num _))
  have T2 := Lib.hid (fun (x : World) (h : Rq w rb b pb (Cm.r2 L).left (Cm.r2 L).err p1 x) => (show Rq w rb b pb (Cm.r2 L).left (Cm.r2 L).err p2 (x.setCells pb 32 ([.int .i64 (Cm.r2 L).val])) from by rw [hp2]; exact h.put _ _ (n1.symm) (by rw [n1, List.length_singleton]; decide)))
  have S3 := Lib.hid (fun (x : World) (h : Rq w rb b pb (Cm.r2 L).left (Cm.r2 L).err p2 x) => (show Calls Tryd.prog 64 #[.pointer (some ⟨b, 0, none⟩), .int .i64 64] x fun e' w' => e' = .returned (.int .i64 (Cm.r3 L).val) ∧ Rq w rb b pb (Cm.r3 L).left (Cm.r3 L).err p2 w' from h.num _))
  have T3 := Lib.hid (fun (x : World) (h : Rq w rb b pb (Cm.r3 L).left (Cm.r3 L).err p2 x) => (show Rq w rb b pb (Cm.r3 L).left (Cm.r3 L).err p3 (x.setCells pb 33 ([.int .i64 (Cm.r3 L).val])) from by rw [hp3]; exact h.put _ _ (n2.symm) (by rw [n2, List.length_singleton]; decide)))
  have S4 := Lib.hid (fun (x : World) (h : Rq w rb b pb (Cm.r3 L).left (Cm.r3 L).err p3 x) => (show Calls Tryd.prog 64 #[.pointer (some ⟨b, 0, none⟩), .int .i64 4611686018427387903] x fun e' w' => e' = .returned (.int .i64 (Cm.r4 L).val) ∧ Rq w rb b pb (Cm.r4 L).left (Cm.r4 L).err p3 w' from h.num _))
  have T4 := Lib.hid (fun (x : World) (h : Rq w rb b pb (Cm.r4 L).left (Cm.r4 L).err p3 x) => (show Rq w rb b pb (Cm.r4 L).left (Cm.r4 L).err p4 (x.setCells pb 34 ([.int .i64 (Cm.r4 L).val])) from by rw [hp4]; exact h.put _ _ (n3.symm) (by rw [n3, List.length_singleton]; decide)))
  have S5 := Lib.hid (fun (x : World) (h : Rq w rb b pb (Cm.r4 L).left (Cm.r4 L).err p4 x) => (show Calls Tryd.prog 64 #[.pointer (some ⟨b, 0, none⟩), .int .i64 3] x fun e' w' => e' = .returned (.int .i64 (Cm.r5 L).val) ∧ Rq w rb b pb (Cm.r5 L).left (Cm.r5 L).err p4 w' from h.num _))
  have T5 := Lib.hid (fun (x : World) (h : Rq w rb b pb (Cm.r5 L).left (Cm.r5 L).err p4 x) => (show Rq w rb b pb (Cm.r5 L).left (Cm.r5 L).err p5 (x.setCells pb 35 ([.int .i64 (Cm.r5 L).val])) from by rw [hp5]; exact h.put _ _ (n4.symm) (by rw [n4, List.length_singleton]; decide)))
  have S6 := Lib.hid (fun (x : World) (h : Rq w rb b pb (Cm.r5 L).left (Cm.r5 L).err p5 x) => (show Calls Tryd.prog 64 #[.pointer (some ⟨b, 0, none⟩), .int .i64 64] x fun e' w' => e' = .returned (.int .i64 (Cm.r6 L).val) ∧ Rq w rb b pb (Cm.r6 L).left (Cm.r6 L).err p5 w' from h.num _))
  have T6 := Lib.hid (fun (x : World) (h : Rq w rb b pb (Cm.r6 L).left (Cm.r6 L).err p5 x) => (show Rq w rb b pb (Cm.r6 L).left (Cm.r6 L).err p6 (x.setCells pb 36 ([.int .i64 (Cm.r6 L).val])) from by rw [hp6]; exact h.put _ _ (n5.symm) (by rw [n5, List.length_singleton]; decide)))
  have S7 := Lib.hid (fun (x : World) (h : Rq w rb b pb (Cm.r6 L).left (Cm.r6 L).err p6 x) => (show Calls Tryd.prog 63 #[.pointer (some ⟨b, 0, none⟩)] x fun e' w' => e' = .returned (.agg (bcells (Cm.r7 L).val).toArray) ∧ Rq w rb b pb (Cm.r7 L).left (Cm.r7 L).err p6 w' from h.hash))
  have T7 := Lib.hid (fun (x : World) (h : Rq w rb b pb (Cm.r7 L).left (Cm.r7 L).err p6 x) => (show Rq w rb b pb (Cm.r7 L).left (Cm.r7 L).err p7 (x.setCells pb 37 (bcells (Cm.r7 L).val)) from by rw [hp7]; exact h.put _ _ (n6.symm) (by rw [n6, hl7]; decide)))
  have S8 := Lib.hid (fun (x : World) (h : Rq w rb b pb (Cm.r7 L).left (Cm.r7 L).err p7 x) => (show Calls Tryd.prog 63 #[.pointer (some ⟨b, 0, none⟩)] x fun e' w' => e' = .returned (.agg (bcells (Cm.r8 L).val).toArray) ∧ Rq w rb b pb (Cm.r8 L).left (Cm.r8 L).err p7 w' from h.hash))
  have T8 := Lib.hid (fun (x : World) (h : Rq w rb b pb (Cm.r8 L).left (Cm.r8 L).err p7 x) => (show Rq w rb b pb (Cm.r8 L).left (Cm.r8 L).err p8 (x.setCells pb 69 (bcells (Cm.r8 L).val)) from by rw [hp8]; exact h.put _ _ (n7.symm) (by rw [n7, hl8]; decide)))
  have I1 := Lib.hid (hashSz10 (l := (Cm.r1 L).val) (gHash_length _ _))
  have I7 := Lib.hid (hashSz10 (l := (Cm.r7 L).val) (gHash_length _ _))
  have I8 := Lib.hid (hashSz10 (l := (Cm.r8 L).val) (gHash_length _ _))
  have Z1 := Lib.hid (show (bcells (Cm.r1 L).val).toArray.size = 32 from hl1)
  have Z7 := Lib.hid (show (bcells (Cm.r7 L).val).toArray.size = 32 from hl7)
  have Z8 := Lib.hid (show (bcells (Cm.r8 L).val).toArray.size = 32 from hl8)
  have A1 := Lib.hid (bcells_all (Cm.r1 L).val)
  have A7 := Lib.hid (bcells_all (Cm.r7 L).val)
  have A8 := Lib.hid (bcells_all (Cm.r8 L).val)
  generalize bcells (Cm.r1 L).val = c1 at hp1 hl1 S1 T1 I1 Z1 A1
  generalize bcells (Cm.r7 L).val = c7 at hp7 hl7 S7 T7 I7 Z7 A7
  generalize bcells (Cm.r8 L).val = c8 at hp8 hl8 S8 T8 I8 Z8 A8
  generalize (Cm.r2 L).val = m2 at hp2 S2 T2
  generalize (Cm.r3 L).val = m3 at hp3 S3 T3
  generalize (Cm.r4 L).val = m4 at hp4 S4 T4
  generalize (Cm.r5 L).val = m5 at hp5 S5 T5
  generalize (Cm.r6 L).val = m6 at hp6 S6 T6
  clear hp1 hp2 hp3 hp4 hp5 hp6 hp7 hp8 hl1 hl7 hl8 n1 n2 n3 n4 n5 n6 n7
  go_upto_region 2 with fail
  refine wp_region_lit ?_
  refine @BigFrame.wpList_want _ _ _ _ _ _ _ ?hw78006 ?_
  case hw78006 => kernel_rfl
  intro K hK
  go_simp
  refine hK _ _ ?_
  clear hK K
  refine @BigFrame.wpList_want _ _ _ _ _ _ _ ?hw78005 ?_
  case hw78005 => kernel_rfl
  intro K hK
  go_simp
  go_at_call 63
  refine (S1.out _ U0.out).mono ?_
  rintro e wa1 ⟨rfl, u1⟩
  have U1 := Lib.hid u1
  clear u1
  refine hK _ _ ?_
  clear hK K
  refine @BigFrame.wpList_want _ _ _ _ _ _ _ ?hw78007 ?_
  case hw78007 => kernel_rfl
  intro K hK
  go_simp
  refine hK _ _ ?_
  clear hK K
  refine @wpL_store_mid10 _ _ _ _ _ _ _ ?hw78008 23 _ _ rfl pb 0 (c1).toArray rfl rfl (by rw [Z1.out]; exact U1.out.fil.there 0 32 (by decide)) (I1.out) (A1.out) ?_
  case hw78008 => kernel_rfl
  simp only [Act.put]
  (try rw [show ((c1).toArray).toList = c1 from rfl])
  have V1 := Lib.hid (T1.out _ U1.out)
  generalize wa1.setCells pb 0 (c1) = wb1 at V1 ⊢
  clear U1
  go_upto_region 3 with fail
  refine wp_region_lit ?_
  refine @BigFrame.wpList_want _ _ _ _ _ _ _ ?hw78010 ?_
  case hw78010 => kernel_rfl
  intro K hK
  go_simp
  refine hK _ _ ?_
  clear hK K
  refine @BigFrame.wpList_want _ _ _ _ _ _ _ ?hw78009 ?_
  case hw78009 => kernel_rfl
  intro K hK
  go_simp
  go_at_call 64
  refine (S2.out _ V1.out).mono ?_
  rintro e wa2 ⟨rfl, u2⟩
  have U2 := Lib.hid u2
  clear u2
  refine hK _ _ ?_
  clear hK K
  refine @BigFrame.wpList_want _ _ _ _ _ _ _ ?hw78011 ?_
  case hw78011 => kernel_rfl
  intro K hK
  go_simp
  refine hK _ _ ?_
  clear hK K
  refine @wpL_store_one _ _ _ _ _ _ _ ?hw78012 3 _ _ rfl pb 32 (.int .i64 m2) rfl rfl (U2.out.fil.there 32 1 (by decide)) rfl (by kernel_rfl) ?_
  case hw78012 => kernel_rfl
  simp only [Act.put]
  have V2 := Lib.hid (T2.out _ U2.out)
  generalize wa2.setCells pb 32 ([.int .i64 m2]) = wb2 at V2 ⊢
  clear U2
  go_upto_region 4 with fail
  refine wp_region_lit ?_
  refine @BigFrame.wpList_want _ _ _ _ _ _ _ ?hw78014 ?_
  case hw78014 => kernel_rfl
  intro K hK
  go_simp
  refine hK _ _ ?_
  clear hK K
  refine @BigFrame.wpList_want _ _ _ _ _ _ _ ?hw78013 ?_
  case hw78013 => kernel_rfl
  intro K hK
  go_simp
  go_at_call 64
  refine (S3.out _ V2.out).mono ?_
  rintro e wa3 ⟨rfl, u3⟩
  have U3 := Lib.hid u3
  clear u3
  refine hK _ _ ?_
  clear hK K
  refine @BigFrame.wpList_want _ _ _ _ _ _ _ ?hw78015 ?_
  case hw78015 => kernel_rfl
  intro K hK
  go_simp
  refine hK _ _ ?_
  clear hK K
  refine @wpL_store_one _ _ _ _ _ _ _ ?hw78016 3 _ _ rfl pb 33 (.int .i64 m3) rfl rfl (U3.out.fil.there 33 1 (by decide)) rfl (by kernel_rfl) ?_
  case hw78016 => kernel_rfl
  simp only [Act.put]
  have V3 := Lib.hid (T3.out _ U3.out)
  generalize wa3.setCells pb 33 ([.int .i64 m3]) = wb3 at V3 ⊢
  clear U3
  go_upto_region 5 with fail
  refine wp_region_lit ?_
  refine @BigFrame.wpList_want _ _ _ _ _ _ _ ?hw78018 ?_
  case hw78018 => kernel_rfl
  intro K hK
  go_simp
  refine hK _ _ ?_
  clear hK K
  refine @BigFrame.wpList_want _ _ _ _ _ _ _ ?hw78017 ?_
  case hw78017 => kernel_rfl
  intro K hK
  go_simp
  go_at_call 64
  refine (S4.out _ V3.out).mono ?_
  rintro e wa4 ⟨rfl, u4⟩
  have U4 := Lib.hid u4
  clear u4
  refine hK _ _ ?_
  clear hK K
  refine @BigFrame.wpList_want _ _ _ _ _ _ _ ?hw78019 ?_
  case hw78019 => kernel_rfl
  intro K hK
  go_simp
  refine hK _ _ ?_
  clear hK K
  refine @wpL_store_one _ _ _ _ _ _ _ ?hw78020 3 _ _ rfl pb 34 (.int .i64 m4) rfl rfl (U4.out.fil.there 34 1 (by decide)) rfl (by kernel_rfl) ?_
  case hw78020 => kernel_rfl
  simp only [Act.put]
  have V4 := Lib.hid (T4.out _ U4.out)
  generalize wa4.setCells pb 34 ([.int .i64 m4]) = wb4 at V4 ⊢
  clear U4
  go_upto_region 6 with fail
  refine wp_region_lit ?_
  refine @BigFrame.wpList_want _ _ _ _ _ _ _ ?hw78022 ?_
  case hw78022 => kernel_rfl
  intro K hK
  go_simp
  refine hK _ _ ?_
  clear hK K
  refine @BigFrame.wpList_want _ _ _ _ _ _ _ ?hw78021 ?_
  case hw78021 => kernel_rfl
  intro K hK
  go_simp
  go_at_call 64
  refine (S5.out _ V4.out).mono ?_
  rintro e wa5 ⟨rfl, u5⟩
  have U5 := Lib.hid u5
  clear u5
  refine hK _ _ ?_
  clear hK K
  refine @BigFrame.wpList_want _ _ _ _ _ _ _ ?hw78023 ?_
  case hw78023 => kernel_rfl
  intro K hK
  go_simp
  refine hK _ _ ?_
  clear hK K
  refine @BigFrame.wpList_want _ _ _ _ _ _ _ ?hw78024 ?_
  case hw78024 => kernel_rfl
  intro K hK
  go_simp
  refine hK _ _ ?_
  clear hK K
  refine @wpL_store_one _ _ _ _ _ _ _ ?hw78025 3 _ _ rfl pb 35 (.int .i64 m5) rfl rfl (U5.out.fil.there 35 1 (by decide)) rfl (by kernel_rfl) ?_
  case hw78025 => kernel_rfl
  simp only [Act.put]
  have V5 := Lib.hid (T5.out _ U5.out)
  generalize wa5.setCells pb 35 ([.int .i64 m5]) = wb5 at V5 ⊢
  clear U5
  go_upto_region 7 with fail
  refine wp_region_lit ?_
  refine @BigFrame.wpList_want _ _ _ _ _ _ _ ?hw78027 ?_
  case hw78027 => kernel_rfl
  intro K hK
  go_simp
  refine hK _ _ ?_
  clear hK K
  refine @BigFrame.wpList_want _ _ _ _ _ _ _ ?hw78026 ?_
  case hw78026 => kernel_rfl
  intro K hK
  go_simp
  go_at_call 64
  refine (S6.out _ V5.out).mono ?_
  rintro e wa6 ⟨rfl, u6⟩
  have U6 := Lib.hid u6
  clear u6
  refine hK _ _ ?_
  clear hK K
  refine @BigFrame.wpList_want _ _ _ _ _ _ _ ?hw78028 ?_
  case hw78028 => kernel_rfl
  intro K hK
  go_simp
  refine hK _ _ ?_
  clear hK K
  refine @BigFrame.wpList_want _ _ _ _ _ _ _ ?hw78029 ?_
  case hw78029 => kernel_rfl
  intro K hK
  go_simp
  refine hK _ _ ?_
  clear hK K
  refine @wpL_store_one _ _ _ _ _ _ _ ?hw78030 3 _ _ rfl pb 36 (.int .i64 m6) rfl rfl (U6.out.fil.there 36 1 (by decide)) rfl (by kernel_rfl) ?_
  case hw78030 => kernel_rfl
  simp only [Act.put]
  have V6 := Lib.hid (T6.out _ U6.out)
  generalize wa6.setCells pb 36 ([.int .i64 m6]) = wb6 at V6 ⊢
  clear U6
  go_upto_region 8 with fail
  refine wp_region_lit ?_
  refine @BigFrame.wpList_want _ _ _ _ _ _ _ ?hw78032 ?_
  case hw78032 => kernel_rfl
  intro K hK
  go_simp
  refine hK _ _ ?_
  clear hK K
  refine @BigFrame.wpList_want _ _ _ _ _ _ _ ?hw78031 ?_
  case hw78031 => kernel_rfl
  intro K hK
  go_simp
  go_at_call 63
  refine (S7.out _ V6.out).mono ?_
  rintro e wa7 ⟨rfl, u7⟩
  have U7 := Lib.hid u7
  clear u7
  refine hK _ _ ?_
  clear hK K
  refine @BigFrame.wpList_want _ _ _ _ _ _ _ ?hw78033 ?_
  case hw78033 => kernel_rfl
  intro K hK
  go_simp
  refine hK _ _ ?_
  clear hK K
  refine @BigFrame.wpList_want _ _ _ _ _ _ _ ?hw78034 ?_
  case hw78034 => kernel_rfl
  intro K hK
  go_simp
  refine hK _ _ ?_
  clear hK K
  refine @wpL_store_mid10 _ _ _ _ _ _ _ ?hw78035 23 _ _ rfl pb 37 (c7).toArray rfl rfl (by rw [Z7.out]; exact U7.out.fil.there 37 32 (by decide)) (I7.out) (A7.out) ?_
  case hw78035 => kernel_rfl
  simp only [Act.put]
  (try rw [show ((c7).toArray).toList = c7 from rfl])
  have V7 := Lib.hid (T7.out _ U7.out)
  generalize wa7.setCells pb 37 (c7) = wb7 at V7 ⊢
  clear U7
  go_upto_region 9 with fail
  refine wp_region_lit ?_
  refine @BigFrame.wpList_want _ _ _ _ _ _ _ ?hw78037 ?_
  case hw78037 => kernel_rfl
  intro K hK
  go_simp
  refine hK _ _ ?_
  clear hK K
  refine @BigFrame.wpList_want _ _ _ _ _ _ _ ?hw78036 ?_
  case hw78036 => kernel_rfl
  intro K hK
  go_simp
  go_at_call 63
  refine (S8.out _ V7.out).mono ?_
  rintro e wa8 ⟨rfl, u8⟩
  have U8 := Lib.hid u8
  clear u8
  refine hK _ _ ?_
  clear hK K
  refine @BigFrame.wpList_want _ _ _ _ _ _ _ ?hw78038 ?_
  case hw78038 => kernel_rfl
  intro K hK
  go_simp
  refine hK _ _ ?_
  clear hK K
  refine @wpL_store_mid10 _ _ _ _ _ _ _ ?hw78039 23 _ _ rfl pb 69 (c8).toArray rfl rfl (by rw [Z8.out]; exact U8.out.fil.there 69 32 (by decide)) (I8.out) (A8.out) ?_
  case hw78039 => kernel_rfl
  simp only [Act.put]
  (try rw [show ((c8).toArray).toList = c8 from rfl])
  have V8 := Lib.hid (T8.out _ U8.out)
  generalize wa8.setCells pb 69 (c8) = wb8 at V8 ⊢
  clear U8
  clear S1 S2 S3 S4 S5 S6 S7 S8 T1 T2 T3 T4 T5 T6 T7 T8 I1 I7 I8 Z1 Z7 Z8 A1 A7 A8
  have HRI := Lib.hid (fun x => refright_calls10 (Cm.rdCg L) (Cm.rdCg_ok L) x)
  have HQI := Lib.hid (cgInfo (Cg.size (Cm.rdCg_ok L)))
  have HQS := Lib.hid (show Cm.zero.cells.toArray.size = (Cm.rdCg L).cells.toArray.size by rw [Cg.size (Cm.rdCg_ok L), Cg.size Cm.zero_ok])
  have HQA := Lib.hid (Cm.rdCg L).all
  obtain ⟨qr, hqr⟩ : ∃ q, q = Cm.right (Cm.rdCg L) := ⟨_, rfl⟩
  obtain ⟨DQ, hDQ⟩ : ∃ D, D = (Cm.rdCg L).cells.toArray := ⟨_, rfl⟩
  rw [← hDQ] at HRI HQI HQS HQA
  rw [← hqr] at HRI
  have HDQ := Lib.hid hDQ
  have HQR := Lib.hid hqr
  clear hDQ hqr
  go_upto_region 10 with fail
  have KD : Kept wb8.heap.size wb8.heap.size wb8 wb8.drew := (Kept.refl _ _ _).drew
  refine wp_region_noPanic ?_
  have HLB := Lib.hid (fun (x : World) (k : Kept wb8.heap.size rb wb8 x) => load_cg_range (p := Cm.rdCg L) (by have := (V8.out.fil.kept k V8.out.fil.lt (Ne.symm V8.out.s2)).rng; rw [HEND.out] at this; exact this) (Cm.rdCg_ok L))
  rw [← HDQ.out] at HLB
  refine wp_region_held_drew (S := fun w' => Kept wb8.heap.size rb wb8 w') (by kernel_rfl) (KD.mono (Nat.le_refl _) (fun i hi _ => Nat.ne_of_lt hi)) (fun hH => ?_)
  refine wpAnyH_take_at (i := 0) 33 (.agg DQ) rfl rfl (by kernel_rfl) (by kernel_rfl) (by kernel_rfl) (fun _ _ _ h => h) (yieldsIf_load_known (by kernel_rfl) 27 _ rfl (pb) (0) rfl (.agg DQ) (fun w' hw' => HLB.out w' hw')) hH ?_
  simp only [List.setIfInBounds_toArray, List.set_cons_zero, List.set_cons_succ]
  refine wpAnyH_take_at (i := 1) 34 (.agg DQ) rfl rfl (by kernel_rfl) (by kernel_rfl) (by kernel_rfl) (fun _ _ _ h => h) (yieldsIf_load_known (by kernel_rfl) 27 _ rfl (pb) (0) rfl (.agg DQ) (fun w' hw' => HLB.out w' hw')) hH ?_
  simp only [List.setIfInBounds_toArray, List.set_cons_zero, List.set_cons_succ]
  refine wpAnyH_ready (rs := [2]) (by kernel_rfl) (by simp) ?_
  refine AllReadyH.cons rfl (fun K hK => ?_) AllReadyH.nil
  rw [if_pos (by rfl)]
  go_simp
  go_wp2_with (go_at_call 10; refine (HRI.out _).mono ?_; rintro e wy ⟨rfl, ky⟩)
  have KY : Kept wb8.heap.size wb8.heap.size wb8 wy := KD.onto ky
  refine hK.out _ _ (KY.mono (Nat.le_refl _) (fun i hi _ => Nat.ne_of_lt hi)) (fun hH => ?_)
  clear hK K
  have RY := row_kept V8.out.res KY
  refine wpAnyH_ready (rs := [3]) (by kernel_rfl) (by simp) ?_
  refine AllReadyH.cons rfl (fun K hK => ?_) AllReadyH.nil
  rw [if_pos (by rfl)]
  refine wp_store_row_none10 27 _ _ rfl rfl rb DQ rfl rfl 27 Cm.zero.cells.toArray RY HQI.out HQS.out HQA.out ?_
  have R9 := setRow_heap wy rb Cm.zero.cells.toArray DQ _ _ RY
  have K8 : Kept w.heap.size b w wb8 := V8.out.kp
  have hsz := K8.size
  have k9 : Kept w.heap.size b w (wy.setRow rb DQ) := kept_setRow10 (K8.trans (KY.mono hsz (fun i hi _ => by omega))) rb HRW.out DQ
  have f9 : Rf (wy.setRow rb DQ) b (Cm.r8 L).left (Cm.r8 L).err := (V8.out.rd.same (KY.block b V8.out.rd.lt (Nat.ne_of_lt V8.out.rd.lt))).same (setRow_other wy rb b DQ (Ne.symm V8.out.s1))
  have kr : Kept wb8.heap.size rb wb8 (wy.setRow rb DQ) := (KY.mono (Nat.le_refl _) (fun i hi _ => Nat.ne_of_lt hi)).trans ⟨rfl, rfl, rfl, by simp [World.setRow], fun i hi hne => setRow_other wy rb i DQ hne⟩
  refine hK.out _ _ kr (fun hH => ?_)
  clear hK K hsz K8
  generalize wy.setRow rb DQ = w9 at R9 k9 f9 kr hH ⊢
  refine wpAnyH_take_ex (i := 4) 3 rfl rfl (by kernel_rfl) (by kernel_rfl) (by kernel_rfl) (fun _ _ _ _ h => h) (by kernel_rfl) hH ?_
  apply Exists.intro
  apply And.intro
  · intro w9 _
    go_simp
    first | done | rfl
  simp only [List.setIfInBounds_toArray, List.set_cons_zero, List.set_cons_succ]
  refine wpAnyH_done (by kernel_rfl) ?_ _
  refine NoPanic.normal ?_
  go_wp2
  refine bodyPost_ret (results_row2c rfl _ _ rb 27 DQ (0, 0) _ rfl R9 Tryd.underlying27 rfl HQI.out) rfl ?_
  exact ⟨by rw [← HDQ.out, ← HQR.out]; rfl, f9, k9⟩


end Go.Proofs.YtcjcomeakkjiiaaDoor

namespace Go.Proofs.YtcjcomeakkjiiaaDoor
open Go.RowKit Go.Lib

theorem str_self (s : ByteArray) : str s.data.toList = s := by
  cases s
  simp [str]
set_option maxRecDepth 100000 in
set_option maxHeartbeats 6400000 in
theorem refunpack_calls10 (s : ByteArray) (w : World) : Calls Tryd.prog 23 #[.string s] w fun e w' => e = .returned (.tuple #[.agg (Cm.unCg s.data.toList).cells.toArray, .int .i64 (Cm.unErr s.data.toList)]) ∧ Kept w.heap.size w.heap.size w w' := by
  have HSS := Lib.hid (str_self s)
  generalize s.data.toList = L at HSS ⊢
  have HUE := Lib.hid (show Cm.unErr L = if Cm.rdErr L = 0 then (if Cm.right (Cm.rdCg L) = true then 0 else 3) else Cm.rdErr L from rfl)
  have HUC := Lib.hid (show Cm.unErr L = 0 → Cm.unCg L = Cm.rdCg L from fun h => by rw [Cm.unCg, if_pos h])
  have HUZ := Lib.hid (show Cm.unErr L ≠ 0 → Cm.unCg L = Cm.zero from fun h => by rw [Cm.unCg, if_neg h])
  have HTK := Lib.hid (fun b x (h : Rf x b L 0) => reftake_calls10 b L x h)
  have HEN := Lib.hid (fun b x (h : Rf x b (Cm.r8 L).left (Cm.r8 L).err) => (show Calls Tryd.prog 39 #[.pointer (some ⟨b, 0, none⟩)] x fun e w' => e = .returned (.int .i64 (Cm.rdErr L)) ∧ w' = x from endrd_all b _ _ x h))
  have HQI := Lib.hid (cgInfo (Cg.size (Cm.rdCg_ok L)))
  have HQS := Lib.hid (show Cm.zero.cells.toArray.size = (Cm.rdCg L).cells.toArray.size by rw [Cg.size (Cm.rdCg_ok L), Cg.size Cm.zero_ok])
  have HQA := Lib.hid (Cm.rdCg L).all
  have HZI := Lib.hid (cgInfo (Cg.size Cm.zero_ok))
  have HZA := Lib.hid Cm.zero.all
  have HZ0 := Lib.hid build_cg0
  have HLQ := Lib.hid (fun (x : World) (b : Nat) (h : x.heap[b]? = some (.cells (Cm.rdCg L).cells.toArray 27 (0, 0))) => load_cg h (Cm.rdCg_ok L))
  obtain ⟨DQ, hDQ⟩ : ∃ D, D = (Cm.rdCg L).cells.toArray := ⟨_, rfl⟩
  obtain ⟨er, her⟩ : ∃ n, n = Cm.rdErr L := ⟨_, rfl⟩
  obtain ⟨qr, hqr⟩ : ∃ n, n = Cm.right (Cm.rdCg L) := ⟨_, rfl⟩
  rw [← hDQ] at HTK HQI HQS HQA HLQ
  rw [← her] at HEN HUE
  rw [← hqr] at HTK HUE
  have HDQ := Lib.hid hDQ
  clear her hqr hDQ
  go_enter Tryd.func23, Tryd.ntmps23
  go_upto_region 0 with fail
  refine wp_region_lit ?_
  refine @wpL_alloc _ _ _ _ _ _ _ _ ?hw80001 27 rfl _ (alloc_cg _) ?_
  case hw80001 => kernel_rfl
  simp only [Act.put, List.setIfInBounds_toArray, List.set_cons_zero, List.set_cons_succ]
  have k1 : Kept w.heap.size w.heap.size w (w.alloc (.cells Cm.zero.cells.toArray 27)) := (Kept.refl _ _ _).alloc (Nat.le_refl _) _
  have r1 := heap_new w (.cells Cm.zero.cells.toArray 27)
  have z1 : (w.alloc (.cells Cm.zero.cells.toArray 27)).heap.size = w.heap.size + 1 := by simp
  generalize w.alloc (.cells Cm.zero.cells.toArray 27) = w1 at k1 r1 z1 ⊢
  obtain ⟨rb, hrb⟩ : ∃ n, n = w.heap.size := ⟨_, rfl⟩
  rw [← hrb] at r1
  (try rw [← hrb])
  have HRB := Lib.hid hrb
  have HZ1 := Lib.hid z1
  have K1 := Lib.hid k1
  have R1 := Lib.hid r1
  clear hrb z1 k1 r1
  refine @BigFrame.wpList_want _ _ _ _ _ _ _ ?hw80002 ?_
  case hw80002 => kernel_rfl
  intro K hK
  go_simp
  refine hK _ _ ?_
  clear hK K
  go_upto_region 1 with fail
  refine wp_region_lit ?_
  refine @BigFrame.wpList_want _ _ _ _ _ _ _ ?hw80003 ?_
  case hw80003 => kernel_rfl
  intro K hK
  go_simp
  refine hK _ _ ?_
  clear hK K
  refine @BigFrame.wpList_want _ _ _ _ _ _ _ ?hw80004 ?_
  case hw80004 => kernel_rfl
  intro K hK
  go_simp
  refine hK _ _ ?_
  clear hK K
  refine @BigFrame.wpList_want _ _ _ _ _ _ _ ?hw80005 ?_
  case hw80005 => kernel_rfl
  intro K hK
  go_simp
  refine hK _ _ ?_
  clear hK K
  refine @BigFrame.wpList_want _ _ _ _ _ _ _ ?hw80006 ?_
  case hw80006 => kernel_rfl
  intro K hK
  go_simp
  refine hK _ _ ?_
  clear hK K
  have kk : Kept w1.heap.size w1.heap.size w1 (w1.alloc (.cells #[.string s, .int .i64 0] 63)) := (Kept.refl _ _ _).alloc (Nat.le_refl _) _
  have f2 : Rf (w1.alloc (.cells #[.string s, .int .i64 0] 63)) w1.heap.size L 0 := ⟨⟨s, heap_new _ _, fun _ => HSS.out.symm⟩, fun h => absurd rfl h⟩
  have r2 := row_kept R1.out kk
  have k2 := K1.out.onto kk
  generalize w1.alloc (.cells #[.string s, .int .i64 0] 63) = w2 at kk f2 r2 k2 ⊢
  obtain ⟨b, hb⟩ : ∃ n, n = w1.heap.size := ⟨_, rfl⟩
  rw [← hb] at f2
  (try rw [← hb])
  have HNE := Lib.hid (show rb ≠ b ∧ w.heap.size ≤ rb ∧ w.heap.size ≤ b by have := HRB.out; have := HZ1.out; omega)
  have F2 := Lib.hid f2
  have R2 := Lib.hid r2
  have K2 := Lib.hid k2
  clear hb f2 r2 k2 kk R1 K1
  go_upto_region 2 with fail
  refine wp_region_lit ?_
  refine @BigFrame.wpList_want _ _ _ _ _ _ _ ?hw80008 ?_
  case hw80008 => kernel_rfl
  intro K hK
  go_simp
  refine hK _ _ ?_
  clear hK K
  refine @BigFrame.wpList_want _ _ _ _ _ _ _ ?hw80007 ?_
  case hw80007 => kernel_rfl
  intro K hK
  go_simp
  go_at_call 38
  refine (HTK.out _ _ F2.out).mono ?_
  rintro e w3 ⟨rfl, f3, k3⟩
  refine hK _ _ ?_
  clear hK K
  refine @BigFrame.wpList_want _ _ _ _ _ _ _ ?hw80009 ?_
  case hw80009 => kernel_rfl
  intro K hK
  go_simp
  refine hK _ _ ?_
  clear hK K
  refine @BigFrame.wpList_want _ _ _ _ _ _ _ ?hw80010 ?_
  case hw80010 => kernel_rfl
  intro K hK
  go_simp
  refine hK _ _ ?_
  clear hK K
  refine @BigFrame.wpList_want _ _ _ _ _ _ _ ?hw80011 ?_
  case hw80011 => kernel_rfl
  intro K hK
  go_simp
  refine hK _ _ ?_
  clear hK K
  refine @wpL_alloc _ _ _ _ _ _ _ _ ?hw80012 27 rfl _ (alloc_cg _) ?_
  case hw80012 => kernel_rfl
  simp only [Act.put, List.setIfInBounds_toArray, List.set_cons_zero, List.set_cons_succ]
  refine wpList_store_row rfl 27 _ _ rfl (w3.heap.size) DQ rfl rfl 27 Cm.zero.cells.toArray (heap_new _ _) (HQI.out) (HQS.out) (HQA.out) ?_
  simp only [Act.put]
  rw [World.setRow_alloc_new]
  refine @BigFrame.wpList_want _ _ _ _ _ _ _ ?hw80013 ?_
  case hw80013 => kernel_rfl
  intro K hK
  go_simp
  refine hK _ _ ?_
  clear hK K
  have hs2 := K2.out.size
  have k3' : Kept w.heap.size w.heap.size w w3 := K2.out.trans (k3.mono hs2 (fun i hi _ => by have := HNE.out; omega))
  have kk : Kept w3.heap.size w3.heap.size w3 (w3.alloc (.cells DQ 27)) := (Kept.refl _ _ _).alloc (Nat.le_refl _) _
  have r3 := (k3.block rb (lt_of_block R2.out) HNE.out.1).trans R2.out
  have r4 := row_kept r3 kk
  have f4 := f3.alloc (.cells DQ 27)
  have q4 := heap_new w3 (.cells DQ 27)
  have k4 := k3'.onto kk
  generalize w3.alloc (.cells DQ 27) = w4 at r4 f4 q4 k4 ⊢
  obtain ⟨pb, hpb⟩ : ∃ n, n = w3.heap.size := ⟨_, rfl⟩
  rw [← hpb] at q4
  (try rw [← hpb])
  have R4 := Lib.hid r4
  have F4 := Lib.hid f4
  have Q4 := Lib.hid q4
  have K4 := Lib.hid k4
  clear hpb r4 f4 q4 k4 k3' kk r3 f3 k3 hs2 F2 R2 K2 HRB HZ1
  go_upto_region 3 with fail
  refine wp_region_lit ?_
  refine @BigFrame.wpList_want _ _ _ _ _ _ _ ?hw80015 ?_
  case hw80015 => kernel_rfl
  intro K hK
  go_simp
  refine hK _ _ ?_
  clear hK K
  refine @BigFrame.wpList_want _ _ _ _ _ _ _ ?hw80014 ?_
  case hw80014 => kernel_rfl
  intro K hK
  go_simp
  go_at_call 39
  refine (HEN.out _ _ F4.out).mono ?_
  rintro e wz ⟨rfl, hwz⟩
  subst wz
  refine hK _ _ ?_
  clear hK K
  refine @BigFrame.wpList_want _ _ _ _ _ _ _ ?hw80016 ?_
  case hw80016 => kernel_rfl
  intro K hK
  go_simp
  refine hK _ _ ?_
  clear hK K
  by_cases he : er = 0
  · subst he
    cases qr
    · have HE3 : Hid (Cm.unErr L = 3) := Lib.hid (by rw [HUE.out, if_pos rfl]; rfl)
      have HC3 : Hid (Cm.unCg L = Cm.zero) := Lib.hid (HUZ.out (by rw [HE3.out]; decide))
      clear HUE HUC HUZ
      go_upto_region 6 with fail
      refine wp_region_lit ?_
      refine @wpL_build0 _ _ _ _ _ _ _ ?hw80017 27 rfl _ (HZ0.out _) ?_
      case hw80017 => kernel_rfl
      simp only [Act.put, List.setIfInBounds_toArray, List.set_cons_zero, List.set_cons_succ]
      refine wpList_store_row rfl 27 _ _ rfl (rb) Cm.zero.cells.toArray rfl rfl 27 Cm.zero.cells.toArray (R4.out) (HZI.out) (rfl) (HZA.out) ?_
      simp only [Act.put]
      have R9 := setRow_heap w4 rb Cm.zero.cells.toArray Cm.zero.cells.toArray _ _ R4.out
      have k9 : Kept w.heap.size w.heap.size w (w4.setRow rb Cm.zero.cells.toArray) := kept_setRow10 K4.out rb HNE.out.2.1 Cm.zero.cells.toArray
      generalize w4.setRow rb Cm.zero.cells.toArray = w9 at R9 k9 ⊢
      refine @BigFrame.wpList_want _ _ _ _ _ _ _ ?hw80018 ?_
      case hw80018 => kernel_rfl
      intro K hK
      go_simp
      refine hK _ _ ?_
      clear hK K
      go_wp2
      refine bodyPost_ret (results_row2c rfl _ _ rb 27 Cm.zero.cells.toArray (0, 0) _ rfl R9 Tryd.underlying27 rfl (HZI.out)) rfl ?_
      exact ⟨by rw [HE3.out, HC3.out]; rfl, k9⟩
    · have HE0 : Hid (Cm.unErr L = 0) := Lib.hid (by rw [HUE.out, if_pos rfl]; rfl)
      have HC0 : Hid (Cm.unCg L = Cm.rdCg L) := Lib.hid (HUC.out HE0.out)
      clear HUE HUC HUZ
      go_upto_region 7 with fail
      refine wp_region_lit ?_
      refine @wpList_load_known _ _ _ _ _ _ _ ?hw80019 27 (.tmp 5) rfl (pb) (0) rfl (.agg DQ) (HLQ.out _ _ Q4.out) ?_
      case hw80019 => kernel_rfl
      simp only [Act.put, List.setIfInBounds_toArray, List.set_cons_zero, List.set_cons_succ]
      refine wpList_store_row rfl 27 _ _ rfl (rb) DQ rfl rfl 27 Cm.zero.cells.toArray (R4.out) (HQI.out) (HQS.out) (HQA.out) ?_
      simp only [Act.put]
      have R9 := setRow_heap w4 rb Cm.zero.cells.toArray DQ _ _ R4.out
      have k9 : Kept w.heap.size w.heap.size w (w4.setRow rb DQ) := kept_setRow10 K4.out rb HNE.out.2.1 DQ
      generalize w4.setRow rb DQ = w9 at R9 k9 ⊢
      refine @BigFrame.wpList_want _ _ _ _ _ _ _ ?hw80020 ?_
      case hw80020 => kernel_rfl
      intro K hK
      go_simp
      refine hK _ _ ?_
      clear hK K
      go_wp2
      refine bodyPost_ret (results_row2c rfl _ _ rb 27 DQ (0, 0) _ rfl R9 Tryd.underlying27 rfl (HQI.out)) rfl ?_
      exact ⟨by rw [HE0.out, HC0.out, ← HDQ.out]; rfl, k9⟩
  · have hx : (er != 0) = true := by simpa using he
    have HE3 : Hid (Cm.unErr L = er) := Lib.hid (by rw [HUE.out, if_neg he])
    have HC3 : Hid (Cm.unCg L = Cm.zero) := Lib.hid (HUZ.out (by rw [HE3.out]; exact he))
    clear he HUE HUC HUZ
    go_upto_region 4 with fail
    refine wp_region_lit ?_
    refine @wpL_build0 _ _ _ _ _ _ _ ?hw80021 27 rfl _ (HZ0.out _) ?_
    case hw80021 => kernel_rfl
    simp only [Act.put, List.setIfInBounds_toArray, List.set_cons_zero, List.set_cons_succ]
    refine @BigFrame.wpList_want _ _ _ _ _ _ _ ?hw80022 ?_
    case hw80022 => kernel_rfl
    intro K hK
    go_simp
    refine hK _ _ ?_
    clear hK K
    refine @BigFrame.wpList_want _ _ _ _ _ _ _ ?hw80023 ?_
    case hw80023 => kernel_rfl
    intro K hK
    go_simp
    go_at_call 39
    refine (HEN.out _ _ F4.out).mono ?_
    rintro e wz ⟨rfl, hwz⟩
    subst wz
    refine hK _ _ ?_
    clear hK K
    refine wpList_store_row rfl 27 _ _ rfl (rb) Cm.zero.cells.toArray rfl rfl 27 Cm.zero.cells.toArray (R4.out) (HZI.out) (rfl) (HZA.out) ?_
    simp only [Act.put]
    have R9 := setRow_heap w4 rb Cm.zero.cells.toArray Cm.zero.cells.toArray _ _ R4.out
    have k9 : Kept w.heap.size w.heap.size w (w4.setRow rb Cm.zero.cells.toArray) := kept_setRow10 K4.out rb HNE.out.2.1 Cm.zero.cells.toArray
    generalize w4.setRow rb Cm.zero.cells.toArray = w9 at R9 k9 ⊢
    refine @BigFrame.wpList_want _ _ _ _ _ _ _ ?hw80024 ?_
    case hw80024 => kernel_rfl
    intro K hK
    go_simp
    refine hK _ _ ?_
    clear hK K
    go_wp2
    refine bodyPost_ret (results_row2c rfl _ _ rb 27 Cm.zero.cells.toArray (0, 0) _ rfl R9 Tryd.underlying27 rfl (HZI.out)) rfl ?_
    exact ⟨by rw [HE3.out, HC3.out]; rfl, k9⟩

end Go.Proofs.YtcjcomeakkjiiaaDoor

namespace Go.Proofs.YtcjcomeakkjiiaaDoor
open Go.RowKit Go.Lib

set_option maxRecDepth 100000 in
set_option maxHeartbeats 6400000 in
theorem read_calls10 (s : ByteArray) (w : World) (htab : Tab w) : Calls Tryd.prog 34 #[.string s] w fun e w' => (Cm.unErr s.data.toList = 0 → e = .returned (.agg (Cm.unCg s.data.toList).cells.toArray)) ∧ (Cm.unErr s.data.toList ≠ 0 → e = .panicked [{ v := .iface 55 (.agg #[.int .i64 (Cm.unErr s.data.toList)]), recovered := false }]) ∧ Kept w.heap.size w.heap.size w w' := by
  have HFR := Lib.hid (fun x => from_calls s x)
  generalize s.data.toList = L at HFR ⊢
  have HW0 := Lib.hid htab.lt
  have HTAB := Lib.hid htab
  clear htab
  go_enter Tryd.func34, Tryd.ntmps34
  go_upto_region 0 with fail
  refine wp_region_lit ?_
  refine @wpL_alloc _ _ _ _ _ _ _ _ ?hw77001 27 rfl _ (alloc_cg _) ?_
  case hw77001 => kernel_rfl
  simp only [Act.put, List.setIfInBounds_toArray, List.set_cons_zero, List.set_cons_succ]
  have k1 : Kept w.heap.size w.heap.size w (w.alloc (.cells Cm.zero.cells.toArray 27)) := (Kept.refl _ _ _).alloc (Nat.le_refl _) _
  have r1 := heap_new w (.cells Cm.zero.cells.toArray 27)
  have z1 : (w.alloc (.cells Cm.zero.cells.toArray 27)).heap.size = w.heap.size + 1 := by simp
  generalize w.alloc (.cells Cm.zero.cells.toArray 27) = w1 at k1 r1 z1 ⊢
  obtain ⟨rb, hrb⟩ : ∃ n, n = w.heap.size := ⟨_, rfl⟩
  rw [← hrb] at r1
  (try rw [← hrb])
  have HRB := Lib.hid hrb
  have HZ1 := Lib.hid z1
  clear hrb z1
  go_upto_region 1 with fail
  refine wp_region_lit ?_
  refine @BigFrame.wpList_want _ _ _ _ _ _ _ ?hw77003 ?_
  case hw77003 => kernel_rfl
  intro K hK
  go_simp
  refine hK _ _ ?_
  clear hK K
  refine @BigFrame.wpList_want _ _ _ _ _ _ _ ?hw77002 ?_
  case hw77002 => kernel_rfl
  intro K hK
  go_simp
  go_at_call 57
  refine (HFR.out w1).mono ?_
  rintro e w2 ⟨rfl, rd2, k2, z2⟩
  refine hK _ _ ?_
  clear hK K
  refine @BigFrame.wpList_want _ _ _ _ _ _ _ ?hw77004 ?_
  case hw77004 => kernel_rfl
  intro K hK
  go_simp
  refine hK _ _ ?_
  clear hK K
  obtain ⟨b, hb⟩ : ∃ n, n = w1.heap.size + 1 := ⟨_, rfl⟩
  rw [show w1.heap.size + 2 = b + 1 by omega, ← hb] at rd2
  (try rw [← hb])
  have HB := Lib.hid hb
  have HZ2 := Lib.hid z2
  clear hb z2
  go_upto_region 2 with fail
  refine wp_region_lit ?_
  refine @wpL_alloc _ _ _ _ _ _ _ _ ?hw77005 27 rfl _ (alloc_cg _) ?_
  case hw77005 => kernel_rfl
  simp only [Act.put, List.setIfInBounds_toArray, List.set_cons_zero, List.set_cons_succ]
  have z1 := HZ1.out
  have z2 := HZ2.out
  have hb := HB.out
  have hrb := HRB.out
  have U0 : Hid (Re w rb b w2.heap.size L 0 [] (w2.alloc (.cells Cm.zero.cells.toArray 27))) := Lib.hid
    ⟨rd2.alloc _, ((HTAB.out.onto k1).onto k2).onto ((Kept.refl _ _ _).alloc (Nat.le_refl _) _), (k1.onto k2).onto ((Kept.refl _ _ _).alloc (Nat.le_refl _) _), fil_zero (heap_new _ _), row_kept (row_kept r1 k2) ((Kept.refl _ _ _).alloc (Nat.le_refl _) _), by omega, by omega, by omega, by omega, by omega, by omega⟩
  generalize w2.alloc (.cells Cm.zero.cells.toArray 27) = w3 at U0 ⊢
  obtain ⟨pb, hpb⟩ : ∃ n, n = w2.heap.size := ⟨_, rfl⟩
  rw [← hpb] at U0
  (try rw [← hpb])
  have HRW := Lib.hid (show w.heap.size ≤ rb by omega)
  clear hpb hrb hb k1 k2 r1 z1 z2 rd2 HTAB HW0 HFR HZ1 HZ2 HB HRB
  obtain ⟨p1, hp1⟩ : ∃ p, p = ([] : List Value) ++ bcells (Cm.r1 L).val := ⟨_, rfl⟩
  obtain ⟨p2, hp2⟩ : ∃ p, p = p1 ++ [.int .i64 (Cm.r2 L).val] := ⟨_, rfl⟩
  obtain ⟨p3, hp3⟩ : ∃ p, p = p2 ++ [.int .i64 (Cm.r3 L).val] := ⟨_, rfl⟩
  obtain ⟨p4, hp4⟩ : ∃ p, p = p3 ++ [.int .i64 (Cm.r4 L).val] := ⟨_, rfl⟩
  obtain ⟨p5, hp5⟩ : ∃ p, p = p4 ++ [.int .i64 (Cm.r5 L).val] := ⟨_, rfl⟩
  obtain ⟨p6, hp6⟩ : ∃ p, p = p5 ++ [.int .i64 (Cm.r6 L).val] := ⟨_, rfl⟩
  obtain ⟨p7, hp7⟩ : ∃ p, p = p6 ++ bcells (Cm.r7 L).val := ⟨_, rfl⟩
  obtain ⟨p8, hp8⟩ : ∃ p, p = p7 ++ bcells (Cm.r8 L).val := ⟨_, rfl⟩
  have hl1 : (bcells (Cm.r1 L).val).length = 32 := by rw [bcells_length]; exact gHash_length _ _
  have hl7 : (bcells (Cm.r7 L).val).length = 32 := by rw [bcells_length]; exact gHash_length _ _
  have hl8 : (bcells (Cm.r8 L).val).length = 32 := by rw [bcells_length]; exact gHash_length _ _
  have n1 : p1.length = 32 := by rw [hp1, List.nil_append]; exact hl1
  have n2 : p2.length = 33 := by rw [hp2, List.length_append, n1]; rfl
  have n3 : p3.length = 34 := by rw [hp3, List.length_append, n2]; rfl
  have n4 : p4.length = 35 := by rw [hp4, List.length_append, n3]; rfl
  have n5 : p5.length = 36 := by rw [hp5, List.length_append, n4]; rfl
  have n6 : p6.length = 37 := by rw [hp6, List.length_append, n5]; rfl
  have n7 : p7.length = 69 := by rw [hp7, List.length_append, n6, hl7]
  have HEND : Hid (p8 = (Cm.rdCg L).cells) := Lib.hid (by
    rw [hp8, hp7, hp6, hp5, hp4, hp3, hp2, hp1]
    simp [Cg.cells, Cg.mid, Cg.chg, Cm.rdCg])
  have S1 := Lib.hid (fun (x : World) (h : Re w rb b pb L 0 ([] : List Value) x) => (show Calls Tryd.prog 58 #[.pointer (some ⟨b, 0, none⟩)] x fun e' w' => e' = .returned (.agg (bcells (Cm.r1 L).val).toArray) ∧ Re w rb b pb (Cm.r1 L).left (Cm.r1 L).err ([] : List Value) w' from h.hash))
  have T1 := Lib.hid (fun (x : World) (h : Re w rb b pb (Cm.r1 L).left (Cm.r1 L).err ([] : List Value) x) => (show Re w rb b pb (Cm.r1 L).left (Cm.r1 L).err p1 (x.setCells pb 0 (bcells (Cm.r1 L).val)) from by rw [hp1]; exact h.put _ _ (rfl) (by rw [hl1]; decide)))
  have S2 := Lib.hid (fun (x : World) (h : Re w rb b pb (Cm.r1 L).left (Cm.r1 L).err p1 x) => (show Calls Tryd.prog 59 #[.pointer (some ⟨b, 0, none⟩), .int .i64 4611686018427387903] x fun e' w' => e' = .returned (.int .i64 (Cm.r2 L).val) ∧ Re w rb b pb (Cm.r2 L).left (Cm.r2 L).err p1 w' from h.num _))
  have T2 := Lib.hid (fun (x : World) (h : Re w rb b pb (Cm.r2 L).left (Cm.r2 L).err p1 x) => (show Re w rb b pb (Cm.r2 L).left (Cm.r2 L).err p2 (x.setCells pb 32 ([.int .i64 (Cm.r2 L).val])) from by rw [hp2]; exact h.put _ _ (n1.symm) (by rw [n1, List.length_singleton]; decide)))
  have S3 := Lib.hid (fun (x : World) (h : Re w rb b pb (Cm.r2 L).left (Cm.r2 L).err p2 x) => (show Calls Tryd.prog 59 #[.pointer (some ⟨b, 0, none⟩), .int .i64 64] x fun e' w' => e' = .returned (.int .i64 (Cm.r3 L).val) ∧ Re w rb b pb (Cm.r3 L).left (Cm.r3 L).err p2 w' from h.num _))
  have T3 := Lib.hid (fun (x : World) (h : Re w rb b pb (Cm.r3 L).left (Cm.r3 L).err p2 x) => (show Re w rb b pb (Cm.r3 L).left (Cm.r3 L).err p3 (x.setCells pb 33 ([.int .i64 (Cm.r3 L).val])) from by rw [hp3]; exact h.put _ _ (n2.symm) (by rw [n2, List.length_singleton]; decide)))
  have S4 := Lib.hid (fun (x : World) (h : Re w rb b pb (Cm.r3 L).left (Cm.r3 L).err p3 x) => (show Calls Tryd.prog 59 #[.pointer (some ⟨b, 0, none⟩), .int .i64 4611686018427387903] x fun e' w' => e' = .returned (.int .i64 (Cm.r4 L).val) ∧ Re w rb b pb (Cm.r4 L).left (Cm.r4 L).err p3 w' from h.num _))
  have T4 := Lib.hid (fun (x : World) (h : Re w rb b pb (Cm.r4 L).left (Cm.r4 L).err p3 x) => (show Re w rb b pb (Cm.r4 L).left (Cm.r4 L).err p4 (x.setCells pb 34 ([.int .i64 (Cm.r4 L).val])) from by rw [hp4]; exact h.put _ _ (n3.symm) (by rw [n3, List.length_singleton]; decide)))
  have S5 := Lib.hid (fun (x : World) (h : Re w rb b pb (Cm.r4 L).left (Cm.r4 L).err p4 x) => (show Calls Tryd.prog 59 #[.pointer (some ⟨b, 0, none⟩), .int .i64 3] x fun e' w' => e' = .returned (.int .i64 (Cm.r5 L).val) ∧ Re w rb b pb (Cm.r5 L).left (Cm.r5 L).err p4 w' from h.num _))
  have T5 := Lib.hid (fun (x : World) (h : Re w rb b pb (Cm.r5 L).left (Cm.r5 L).err p4 x) => (show Re w rb b pb (Cm.r5 L).left (Cm.r5 L).err p5 (x.setCells pb 35 ([.int .i64 (Cm.r5 L).val])) from by rw [hp5]; exact h.put _ _ (n4.symm) (by rw [n4, List.length_singleton]; decide)))
  have S6 := Lib.hid (fun (x : World) (h : Re w rb b pb (Cm.r5 L).left (Cm.r5 L).err p5 x) => (show Calls Tryd.prog 59 #[.pointer (some ⟨b, 0, none⟩), .int .i64 64] x fun e' w' => e' = .returned (.int .i64 (Cm.r6 L).val) ∧ Re w rb b pb (Cm.r6 L).left (Cm.r6 L).err p5 w' from h.num _))
  have T6 := Lib.hid (fun (x : World) (h : Re w rb b pb (Cm.r6 L).left (Cm.r6 L).err p5 x) => (show Re w rb b pb (Cm.r6 L).left (Cm.r6 L).err p6 (x.setCells pb 36 ([.int .i64 (Cm.r6 L).val])) from by rw [hp6]; exact h.put _ _ (n5.symm) (by rw [n5, List.length_singleton]; decide)))
  have S7 := Lib.hid (fun (x : World) (h : Re w rb b pb (Cm.r6 L).left (Cm.r6 L).err p6 x) => (show Calls Tryd.prog 58 #[.pointer (some ⟨b, 0, none⟩)] x fun e' w' => e' = .returned (.agg (bcells (Cm.r7 L).val).toArray) ∧ Re w rb b pb (Cm.r7 L).left (Cm.r7 L).err p6 w' from h.hash))
  have T7 := Lib.hid (fun (x : World) (h : Re w rb b pb (Cm.r7 L).left (Cm.r7 L).err p6 x) => (show Re w rb b pb (Cm.r7 L).left (Cm.r7 L).err p7 (x.setCells pb 37 (bcells (Cm.r7 L).val)) from by rw [hp7]; exact h.put _ _ (n6.symm) (by rw [n6, hl7]; decide)))
  have S8 := Lib.hid (fun (x : World) (h : Re w rb b pb (Cm.r7 L).left (Cm.r7 L).err p7 x) => (show Calls Tryd.prog 58 #[.pointer (some ⟨b, 0, none⟩)] x fun e' w' => e' = .returned (.agg (bcells (Cm.r8 L).val).toArray) ∧ Re w rb b pb (Cm.r8 L).left (Cm.r8 L).err p7 w' from h.hash))
  have T8 := Lib.hid (fun (x : World) (h : Re w rb b pb (Cm.r8 L).left (Cm.r8 L).err p7 x) => (show Re w rb b pb (Cm.r8 L).left (Cm.r8 L).err p8 (x.setCells pb 69 (bcells (Cm.r8 L).val)) from by rw [hp8]; exact h.put _ _ (n7.symm) (by rw [n7, hl8]; decide)))
  have I1 := Lib.hid (hashSz10 (l := (Cm.r1 L).val) (gHash_length _ _))
  have I7 := Lib.hid (hashSz10 (l := (Cm.r7 L).val) (gHash_length _ _))
  have I8 := Lib.hid (hashSz10 (l := (Cm.r8 L).val) (gHash_length _ _))
  have Z1 := Lib.hid (show (bcells (Cm.r1 L).val).toArray.size = 32 from hl1)
  have Z7 := Lib.hid (show (bcells (Cm.r7 L).val).toArray.size = 32 from hl7)
  have Z8 := Lib.hid (show (bcells (Cm.r8 L).val).toArray.size = 32 from hl8)
  have A1 := Lib.hid (bcells_all (Cm.r1 L).val)
  have A7 := Lib.hid (bcells_all (Cm.r7 L).val)
  have A8 := Lib.hid (bcells_all (Cm.r8 L).val)
  generalize bcells (Cm.r1 L).val = c1 at hp1 hl1 S1 T1 I1 Z1 A1
  generalize bcells (Cm.r7 L).val = c7 at hp7 hl7 S7 T7 I7 Z7 A7
  generalize bcells (Cm.r8 L).val = c8 at hp8 hl8 S8 T8 I8 Z8 A8
  generalize (Cm.r2 L).val = m2 at hp2 S2 T2
  generalize (Cm.r3 L).val = m3 at hp3 S3 T3
  generalize (Cm.r4 L).val = m4 at hp4 S4 T4
  generalize (Cm.r5 L).val = m5 at hp5 S5 T5
  generalize (Cm.r6 L).val = m6 at hp6 S6 T6
  clear hp1 hp2 hp3 hp4 hp5 hp6 hp7 hp8 hl1 hl7 hl8 n1 n2 n3 n4 n5 n6 n7
  go_upto_region 3 with fail
  refine wp_region_lit ?_
  refine @BigFrame.wpList_want _ _ _ _ _ _ _ ?hw77007 ?_
  case hw77007 => kernel_rfl
  intro K hK
  go_simp
  refine hK _ _ ?_
  clear hK K
  refine @BigFrame.wpList_want _ _ _ _ _ _ _ ?hw77006 ?_
  case hw77006 => kernel_rfl
  intro K hK
  go_simp
  go_at_call 58
  refine (S1.out _ U0.out).mono ?_
  rintro e wa1 ⟨rfl, u1⟩
  have U1 := Lib.hid u1
  clear u1
  refine hK _ _ ?_
  clear hK K
  refine @BigFrame.wpList_want _ _ _ _ _ _ _ ?hw77008 ?_
  case hw77008 => kernel_rfl
  intro K hK
  go_simp
  refine hK _ _ ?_
  clear hK K
  refine @wpL_store_mid10 _ _ _ _ _ _ _ ?hw77009 23 _ _ rfl pb 0 (c1).toArray rfl rfl (by rw [Z1.out]; exact U1.out.fil.there 0 32 (by decide)) (I1.out) (A1.out) ?_
  case hw77009 => kernel_rfl
  simp only [Act.put]
  (try rw [show ((c1).toArray).toList = c1 from rfl])
  have V1 := Lib.hid (T1.out _ U1.out)
  generalize wa1.setCells pb 0 (c1) = wb1 at V1 ⊢
  clear U1
  go_upto_region 4 with fail
  refine wp_region_lit ?_
  refine @BigFrame.wpList_want _ _ _ _ _ _ _ ?hw77011 ?_
  case hw77011 => kernel_rfl
  intro K hK
  go_simp
  refine hK _ _ ?_
  clear hK K
  refine @BigFrame.wpList_want _ _ _ _ _ _ _ ?hw77010 ?_
  case hw77010 => kernel_rfl
  intro K hK
  go_simp
  go_at_call 59
  refine (S2.out _ V1.out).mono ?_
  rintro e wa2 ⟨rfl, u2⟩
  have U2 := Lib.hid u2
  clear u2
  refine hK _ _ ?_
  clear hK K
  refine @BigFrame.wpList_want _ _ _ _ _ _ _ ?hw77012 ?_
  case hw77012 => kernel_rfl
  intro K hK
  go_simp
  refine hK _ _ ?_
  clear hK K
  refine @wpL_store_one _ _ _ _ _ _ _ ?hw77013 3 _ _ rfl pb 32 (.int .i64 m2) rfl rfl (U2.out.fil.there 32 1 (by decide)) rfl (by kernel_rfl) ?_
  case hw77013 => kernel_rfl
  simp only [Act.put]
  have V2 := Lib.hid (T2.out _ U2.out)
  generalize wa2.setCells pb 32 ([.int .i64 m2]) = wb2 at V2 ⊢
  clear U2
  go_upto_region 5 with fail
  refine wp_region_lit ?_
  refine @BigFrame.wpList_want _ _ _ _ _ _ _ ?hw77015 ?_
  case hw77015 => kernel_rfl
  intro K hK
  go_simp
  refine hK _ _ ?_
  clear hK K
  refine @BigFrame.wpList_want _ _ _ _ _ _ _ ?hw77014 ?_
  case hw77014 => kernel_rfl
  intro K hK
  go_simp
  go_at_call 59
  refine (S3.out _ V2.out).mono ?_
  rintro e wa3 ⟨rfl, u3⟩
  have U3 := Lib.hid u3
  clear u3
  refine hK _ _ ?_
  clear hK K
  refine @BigFrame.wpList_want _ _ _ _ _ _ _ ?hw77016 ?_
  case hw77016 => kernel_rfl
  intro K hK
  go_simp
  refine hK _ _ ?_
  clear hK K
  refine @wpL_store_one _ _ _ _ _ _ _ ?hw77017 3 _ _ rfl pb 33 (.int .i64 m3) rfl rfl (U3.out.fil.there 33 1 (by decide)) rfl (by kernel_rfl) ?_
  case hw77017 => kernel_rfl
  simp only [Act.put]
  have V3 := Lib.hid (T3.out _ U3.out)
  generalize wa3.setCells pb 33 ([.int .i64 m3]) = wb3 at V3 ⊢
  clear U3
  go_upto_region 6 with fail
  refine wp_region_lit ?_
  refine @BigFrame.wpList_want _ _ _ _ _ _ _ ?hw77019 ?_
  case hw77019 => kernel_rfl
  intro K hK
  go_simp
  refine hK _ _ ?_
  clear hK K
  refine @BigFrame.wpList_want _ _ _ _ _ _ _ ?hw77018 ?_
  case hw77018 => kernel_rfl
  intro K hK
  go_simp
  go_at_call 59
  refine (S4.out _ V3.out).mono ?_
  rintro e wa4 ⟨rfl, u4⟩
  have U4 := Lib.hid u4
  clear u4
  refine hK _ _ ?_
  clear hK K
  refine @BigFrame.wpList_want _ _ _ _ _ _ _ ?hw77020 ?_
  case hw77020 => kernel_rfl
  intro K hK
  go_simp
  refine hK _ _ ?_
  clear hK K
  refine @wpL_store_one _ _ _ _ _ _ _ ?hw77021 3 _ _ rfl pb 34 (.int .i64 m4) rfl rfl (U4.out.fil.there 34 1 (by decide)) rfl (by kernel_rfl) ?_
  case hw77021 => kernel_rfl
  simp only [Act.put]
  have V4 := Lib.hid (T4.out _ U4.out)
  generalize wa4.setCells pb 34 ([.int .i64 m4]) = wb4 at V4 ⊢
  clear U4
  go_upto_region 7 with fail
  refine wp_region_lit ?_
  refine @BigFrame.wpList_want _ _ _ _ _ _ _ ?hw77023 ?_
  case hw77023 => kernel_rfl
  intro K hK
  go_simp
  refine hK _ _ ?_
  clear hK K
  refine @BigFrame.wpList_want _ _ _ _ _ _ _ ?hw77022 ?_
  case hw77022 => kernel_rfl
  intro K hK
  go_simp
  go_at_call 59
  refine (S5.out _ V4.out).mono ?_
  rintro e wa5 ⟨rfl, u5⟩
  have U5 := Lib.hid u5
  clear u5
  refine hK _ _ ?_
  clear hK K
  refine @BigFrame.wpList_want _ _ _ _ _ _ _ ?hw77024 ?_
  case hw77024 => kernel_rfl
  intro K hK
  go_simp
  refine hK _ _ ?_
  clear hK K
  refine @BigFrame.wpList_want _ _ _ _ _ _ _ ?hw77025 ?_
  case hw77025 => kernel_rfl
  intro K hK
  go_simp
  refine hK _ _ ?_
  clear hK K
  refine @wpL_store_one _ _ _ _ _ _ _ ?hw77026 3 _ _ rfl pb 35 (.int .i64 m5) rfl rfl (U5.out.fil.there 35 1 (by decide)) rfl (by kernel_rfl) ?_
  case hw77026 => kernel_rfl
  simp only [Act.put]
  have V5 := Lib.hid (T5.out _ U5.out)
  generalize wa5.setCells pb 35 ([.int .i64 m5]) = wb5 at V5 ⊢
  clear U5
  go_upto_region 8 with fail
  refine wp_region_lit ?_
  refine @BigFrame.wpList_want _ _ _ _ _ _ _ ?hw77028 ?_
  case hw77028 => kernel_rfl
  intro K hK
  go_simp
  refine hK _ _ ?_
  clear hK K
  refine @BigFrame.wpList_want _ _ _ _ _ _ _ ?hw77027 ?_
  case hw77027 => kernel_rfl
  intro K hK
  go_simp
  go_at_call 59
  refine (S6.out _ V5.out).mono ?_
  rintro e wa6 ⟨rfl, u6⟩
  have U6 := Lib.hid u6
  clear u6
  refine hK _ _ ?_
  clear hK K
  refine @BigFrame.wpList_want _ _ _ _ _ _ _ ?hw77029 ?_
  case hw77029 => kernel_rfl
  intro K hK
  go_simp
  refine hK _ _ ?_
  clear hK K
  refine @BigFrame.wpList_want _ _ _ _ _ _ _ ?hw77030 ?_
  case hw77030 => kernel_rfl
  intro K hK
  go_simp
  refine hK _ _ ?_
  clear hK K
  refine @wpL_store_one _ _ _ _ _ _ _ ?hw77031 3 _ _ rfl pb 36 (.int .i64 m6) rfl rfl (U6.out.fil.there 36 1 (by decide)) rfl (by kernel_rfl) ?_
  case hw77031 => kernel_rfl
  simp only [Act.put]
  have V6 := Lib.hid (T6.out _ U6.out)
  generalize wa6.setCells pb 36 ([.int .i64 m6]) = wb6 at V6 ⊢
  clear U6
  go_upto_region 9 with fail
  refine wp_region_lit ?_
  refine @BigFrame.wpList_want _ _ _ _ _ _ _ ?hw77033 ?_
  case hw77033 => kernel_rfl
  intro K hK
  go_simp
  refine hK _ _ ?_
  clear hK K
  refine @BigFrame.wpList_want _ _ _ _ _ _ _ ?hw77032 ?_
  case hw77032 => kernel_rfl
  intro K hK
  go_simp
  go_at_call 58
  refine (S7.out _ V6.out).mono ?_
  rintro e wa7 ⟨rfl, u7⟩
  have U7 := Lib.hid u7
  clear u7
  refine hK _ _ ?_
  clear hK K
  refine @BigFrame.wpList_want _ _ _ _ _ _ _ ?hw77034 ?_
  case hw77034 => kernel_rfl
  intro K hK
  go_simp
  refine hK _ _ ?_
  clear hK K
  refine @BigFrame.wpList_want _ _ _ _ _ _ _ ?hw77035 ?_
  case hw77035 => kernel_rfl
  intro K hK
  go_simp
  refine hK _ _ ?_
  clear hK K
  refine @wpL_store_mid10 _ _ _ _ _ _ _ ?hw77036 23 _ _ rfl pb 37 (c7).toArray rfl rfl (by rw [Z7.out]; exact U7.out.fil.there 37 32 (by decide)) (I7.out) (A7.out) ?_
  case hw77036 => kernel_rfl
  simp only [Act.put]
  (try rw [show ((c7).toArray).toList = c7 from rfl])
  have V7 := Lib.hid (T7.out _ U7.out)
  generalize wa7.setCells pb 37 (c7) = wb7 at V7 ⊢
  clear U7
  go_upto_region 10 with fail
  refine wp_region_lit ?_
  refine @BigFrame.wpList_want _ _ _ _ _ _ _ ?hw77038 ?_
  case hw77038 => kernel_rfl
  intro K hK
  go_simp
  refine hK _ _ ?_
  clear hK K
  refine @BigFrame.wpList_want _ _ _ _ _ _ _ ?hw77037 ?_
  case hw77037 => kernel_rfl
  intro K hK
  go_simp
  go_at_call 58
  refine (S8.out _ V7.out).mono ?_
  rintro e wa8 ⟨rfl, u8⟩
  have U8 := Lib.hid u8
  clear u8
  refine hK _ _ ?_
  clear hK K
  refine @BigFrame.wpList_want _ _ _ _ _ _ _ ?hw77039 ?_
  case hw77039 => kernel_rfl
  intro K hK
  go_simp
  refine hK _ _ ?_
  clear hK K
  refine @wpL_store_mid10 _ _ _ _ _ _ _ ?hw77040 23 _ _ rfl pb 69 (c8).toArray rfl rfl (by rw [Z8.out]; exact U8.out.fil.there 69 32 (by decide)) (I8.out) (A8.out) ?_
  case hw77040 => kernel_rfl
  simp only [Act.put]
  (try rw [show ((c8).toArray).toList = c8 from rfl])
  have V8 := Lib.hid (T8.out _ U8.out)
  generalize wa8.setCells pb 69 (c8) = wb8 at V8 ⊢
  clear U8
  have HEN := Lib.hid (fun x (h : Re w rb b pb (Cm.r8 L).left (Cm.r8 L).err p8 x) => (show Calls Tryd.prog 60 #[.pointer (some ⟨b, 0, none⟩)] x fun e w' => e = .returned (.int .i64 (Cm.rdErr L)) ∧ x = w' from end_all (b + 1) b _ _ x h.rd))
  have HUE := Lib.hid (show Cm.unErr L = if Cm.rdErr L = 0 then (if Cm.right (Cm.rdCg L) = true then 0 else 3) else Cm.rdErr L from rfl)
  have HUC := Lib.hid (show Cm.unErr L = 0 → Cm.unCg L = Cm.rdCg L from fun h => by rw [Cm.unCg, if_pos h])
  obtain ⟨er, her⟩ : ∃ n, n = Cm.rdErr L := ⟨_, rfl⟩
  rw [← her] at HEN HUE
  clear her S1 S2 S3 S4 S5 S6 S7 S8 T1 T2 T3 T4 T5 T6 T7 T8 I1 I7 I8 Z1 Z7 Z8 A1 A7 A8
  go_upto_region 11 with fail
  refine wp_region_lit ?_
  refine @BigFrame.wpList_want _ _ _ _ _ _ _ ?hw77042 ?_
  case hw77042 => kernel_rfl
  intro K hK
  go_simp
  refine hK _ _ ?_
  clear hK K
  refine @BigFrame.wpList_want _ _ _ _ _ _ _ ?hw77041 ?_
  case hw77041 => kernel_rfl
  intro K hK
  go_simp
  go_at_call 60
  refine (HEN.out _ V8.out).mono ?_
  rintro e wz ⟨rfl, hwz⟩
  subst hwz
  refine hK _ _ ?_
  clear hK K
  refine @BigFrame.wpList_want _ _ _ _ _ _ _ ?hw77043 ?_
  case hw77043 => kernel_rfl
  intro K hK
  go_simp
  refine hK _ _ ?_
  clear hK K
  by_cases he : er = 0
  · subst he
    have HRI := Lib.hid (fun x => right_calls10 (Cm.rdCg L) (Cm.rdCg_ok L) x)
    have HLQ := Lib.hid (fun (x : World) (h : Fil x pb p8) => load_cg_range (p := Cm.rdCg L) (by have := h.rng; rw [HEND.out] at this; exact this) (Cm.rdCg_ok L))
    have HQI := Lib.hid (cgInfo (Cg.size (Cm.rdCg_ok L)))
    have HQS := Lib.hid (show Cm.zero.cells.toArray.size = (Cm.rdCg L).cells.toArray.size by rw [Cg.size (Cm.rdCg_ok L), Cg.size Cm.zero_ok])
    have HQA := Lib.hid (Cm.rdCg L).all
    cases hr : Cm.right (Cm.rdCg L)
    · rw [hr] at HRI
      have HE3 : Hid (Cm.unErr L = 3) := Lib.hid (by rw [HUE.out, if_pos rfl, hr]; rfl)
      generalize (Cm.rdCg L).cells.toArray = DQ at HRI HLQ
      clear hr HQI HQS HQA HUE HUC
      go_upto_region 14 with fail
      refine wp_region_lit ?_
      refine @wpList_load_known _ _ _ _ _ _ _ ?hw77045 27 (.tmp 4) rfl (pb) (0) rfl (.agg DQ) (HLQ.out _ V8.out.fil) ?_
      case hw77045 => kernel_rfl
      simp only [Act.put, List.setIfInBounds_toArray, List.set_cons_zero, List.set_cons_succ]
      refine @BigFrame.wpList_want _ _ _ _ _ _ _ ?hw77044 ?_
      case hw77044 => kernel_rfl
      intro K hK
      go_simp
      go_at_call 9
      refine (HRI.out _).mono ?_
      rintro e wy ⟨rfl, ky⟩
      refine hK _ _ ?_
      clear hK K
      refine @BigFrame.wpList_want _ _ _ _ _ _ _ ?hw77046 ?_
      case hw77046 => kernel_rfl
      intro K hK
      go_simp
      refine hK _ _ ?_
      clear hK K
      have KY := Lib.hid (V8.out.kp.onto ky)
      clear ky
      go_wp2
      exact ⟨rfl, fun h => by rw [HE3.out] at h; exact absurd h (by decide), fun _ => by rw [HE3.out], KY.out⟩
    · rw [hr] at HRI
      have HE0 : Hid (Cm.unErr L = 0) := Lib.hid (by rw [HUE.out, if_pos rfl, hr]; rfl)
      have HEC : Hid (Cm.unCg L = Cm.rdCg L) := Lib.hid (HUC.out HE0.out)
      obtain ⟨DQ, hDQ⟩ : ∃ D, D = (Cm.rdCg L).cells.toArray := ⟨_, rfl⟩
      rw [← hDQ] at HRI HLQ HQI HQS HQA
      have HDQ := Lib.hid hDQ
      clear hr HUE HUC hDQ
      go_upto_region 14 with fail
      refine wp_region_lit ?_
      refine @wpList_load_known _ _ _ _ _ _ _ ?hw77048 27 (.tmp 4) rfl (pb) (0) rfl (.agg DQ) (HLQ.out _ V8.out.fil) ?_
      case hw77048 => kernel_rfl
      simp only [Act.put, List.setIfInBounds_toArray, List.set_cons_zero, List.set_cons_succ]
      refine @BigFrame.wpList_want _ _ _ _ _ _ _ ?hw77047 ?_
      case hw77047 => kernel_rfl
      intro K hK
      go_simp
      go_at_call 9
      refine (HRI.out _).mono ?_
      rintro e wy ⟨rfl, ky⟩
      refine hK _ _ ?_
      clear hK K
      refine @BigFrame.wpList_want _ _ _ _ _ _ _ ?hw77049 ?_
      case hw77049 => kernel_rfl
      intro K hK
      go_simp
      refine hK _ _ ?_
      clear hK K
      have KY := Lib.hid (V8.out.kp.onto ky)
      have FY := Lib.hid (V8.out.fil.kept ky V8.out.fil.lt (Nat.ne_of_lt V8.out.fil.lt))
      have RY := Lib.hid (row_kept V8.out.res ky)
      clear ky
      go_upto_region 16 with fail
      refine wp_region_lit ?_
      refine @wpList_load_known _ _ _ _ _ _ _ ?hw77050 27 (.tmp 4) rfl (pb) (0) rfl (.agg DQ) (HLQ.out _ FY.out) ?_
      case hw77050 => kernel_rfl
      simp only [Act.put, List.setIfInBounds_toArray, List.set_cons_zero, List.set_cons_succ]
      refine wpList_store_row rfl 27 _ _ rfl (rb) DQ rfl rfl 27 Cm.zero.cells.toArray (RY.out) (HQI.out) (HQS.out) (HQA.out) ?_
      simp only [Act.put]
      have R9 := setRow_heap wy rb Cm.zero.cells.toArray DQ _ _ RY.out
      have k9 : Kept w.heap.size w.heap.size w (wy.setRow rb DQ) := Kept.ofBelow (below_setRow (KY.out.below (Nat.le_refl _) (Nat.le_refl _)) HRW.out DQ) (Nat.le_refl _)
      generalize wy.setRow rb DQ = w9 at R9 k9 ⊢
      go_wp2
      refine bodyPost_ret (results_cell_row rfl _ _ rb 27 DQ (0, 0) _ rfl R9 Tryd.underlying27 rfl HQI.out) rfl ?_
      exact ⟨fun _ => by rw [HEC.out, ← HDQ.out], fun h => absurd HE0.out h, k9⟩
  · have hx : (er != 0) = true := by simpa using he
    have HE3 : Hid (Cm.unErr L = er) := Lib.hid (by rw [HUE.out, if_neg he])
    have HNE := Lib.hid he
    clear he HUE HUC
    go_wp2
    exact ⟨rfl, fun h => by rw [HE3.out] at h; exact absurd h HNE.out, fun _ => by rw [HE3.out], V8.out.kp⟩

end Go.Proofs.YtcjcomeakkjiiaaDoor

namespace Go.Proofs.YtcjcomeakkjiiaaDoor
open Go.RowKit Go.Lib

theorem catch_idle10 (p q : Addr) (w : World) :
    CallsD Tryd.prog 33 #[.pointer (some p), .pointer (some q)] .returning w fun e u' w' => e = .returned (.tuple #[]) ∧ u' = .returning ∧ w' = w := by
  refine callsD_of_wpS Tryd.func33 rfl fun c₀ cs hu => ?_
  apply wpS_seq
  apply wpS_region
  simp [wpOpsS, go_sem, recoverD, hu, Tryd.ntmps33, Exit.thenS]
  apply wpS_seq
  apply wpS_seq
  apply wpS_region
  simp [wpOpsS, go_sem, Exit.thenS]
  refine wpS_cond (t := true) (by simp [Act.eval, Array.replicate]) ?_
  simp only [if_true]
  refine wpS_of_wp (wp_ret ?_)
  cases c₀
  simp_all [bodyPostS, results, Tryd.results33, Exit.thenS]
theorem load_errno10 {w : World} {g o : Nat} {n : Int} (h : w.cell? ⟨g, o, none⟩ = some (.int .i64 n)) : (loadVar 35 ⟨g, o, none⟩).run Tryd.prog w = .ok (.int .i64 n) w := by
  go_simp
theorem wp_build0_known {P : Program} {o : Oper} {a : Act} {w : World} {K : Act → World → Prop} {Q : Exit → Act → World → Prop} (t : TypeId) (ho : o.op = .build t #[]) {u : Value} (hr : (Instr.build t #[]).run P w = .ok u w) (hk : K (a.put o.dst u) w) : o.wp P a w K Q := by
  unfold Oper.wp execOp
  simp only [ho, List.map_toArray, List.map_nil, Sem.run_bind, hr, Result.andThen_ok, Sem.run_pure]
  exact hk
set_option maxRecDepth 100000 in
set_option maxHeartbeats 6400000 in
theorem catch_panics10 (rb eb : Nat) (x y : Int) (Z : Array Value) (hZ : Z.size = 101) (older : List PanicEntry) (w : World) (hr : w.heap[rb]? = some (.cells Z 27 (0, 0))) (he : w.heap[eb]? = some (.cells #[.int .i64 y] 35 (0, 0))) (hne : rb ≠ eb) :
    CallsD Tryd.prog 33 #[.pointer (some ⟨rb, 0, none⟩), .pointer (some ⟨eb, 0, none⟩)] (.panicking ({ v := .iface 55 (.agg #[.int .i64 x]), recovered := false } :: older)) w fun e u' w' => e = .returned (.tuple #[]) ∧ u' = .panicking ({ v := .iface 55 (.agg #[.int .i64 x]), recovered := true } :: older) ∧
      w'.heap[rb]? = some (.cells Cm.zero.cells.toArray 27 (0, 0)) ∧ w'.heap[eb]? = some (.cells #[.int .i64 x] 35 (0, 0)) ∧ ∀ base, base ≤ rb → base ≤ eb → base ≤ w.heap.size → Kept base base w w' := by
  refine callsD_of_wpS Tryd.func33 rfl fun c₀ cs hu => ?_
  apply wpS_seq
  apply wpS_region
  simp [wpOpsS, go_sem, recoverD, hu, Tryd.ntmps33, Exit.thenS]
  refine wpS_of_wp ?_
  simp only [show (Array.replicate 17 (undef : Value)) = #[undef, undef, undef, undef, undef, undef, undef, undef, undef, undef, undef, undef, undef, undef, undef, undef, undef] from rfl, List.setIfInBounds_toArray, List.set_cons_succ, List.set_cons_zero, List.append_toArray, List.cons_append, List.nil_append]
  have hta : ∀ w, (Instr.typeAssert (.iface 55 (.agg #[.int .i64 x])) 20 55 true).run Tryd.prog w = .ok (.tuple #[.agg #[.int .i64 x], .bool true]) w := fun w => by kernel_rfl
  go_upto_region 5 with fail
  have kn := (Kept.refl w.heap.size w.heap.size w).alloc (Nat.le_refl _) (.cells #[.int .i64 x] 55)
  have hg1 := heap_new w (.cells #[.int .i64 x] 55)
  have hr1 := row_kept hr kn
  have he1 := row_kept he kn
  have hrg := lt_of_block hr
  have heg := lt_of_block he
  generalize w.alloc (.cells #[.int .i64 x] 55) = w1 at kn hg1 hr1 he1 ⊢
  obtain ⟨gb, hgb⟩ : ∃ n, n = w.heap.size := ⟨_, rfl⟩
  rw [← hgb] at hg1
  (try rw [← hgb])
  have HNG := Lib.hid (show rb ≠ gb ∧ eb ≠ gb ∧ eb ≠ rb by omega)
  clear hrg heg hgb hta hr he
  have KN := Lib.hid kn
  have HR1 := Lib.hid hr1
  have HE1 := Lib.hid he1
  have HG1 := Lib.hid hg1
  have HZI := Lib.hid (cgInfo (Cg.size Cm.zero_ok))
  have HZS := Lib.hid (show Z.size = Cm.zero.cells.toArray.size by rw [hZ, Cg.size Cm.zero_ok])
  have HZA := Lib.hid Cm.zero.all
  have HB0 := Lib.hid build_cg0
  clear kn hr1 he1 hg1 hne hZ
  obtain ⟨Z0, hZ0⟩ : ∃ D, D = Cm.zero.cells.toArray := ⟨_, rfl⟩
  have HZ0 := Lib.hid hZ0
  rw [← hZ0] at HZI HZS HZA HB0
  clear hZ0
  refine wp_region_noPanic ?_
  have HGL := Lib.hid (fun (x' : World) (h : x'.heap[gb]? = some (.cells #[.int .i64 x] 55 (0, 0))) => load_errno10 (int_cell x' gb 0 _ _ _ h (v := .int .i64 x) rfl))
  refine wp_region_held_drew (S := fun w' => w'.heap[gb]? = some (.cells #[.int .i64 x] 55 (0, 0))) (by kernel_rfl) HG1.out (fun hH => ?_)
  have HRD : Hid (w1.drew.heap[rb]? = some (.cells Z 27 (0, 0))) := Lib.hid HR1.out
  have HED : Hid (w1.drew.heap[eb]? = some (.cells #[.int .i64 y] 35 (0, 0))) := Lib.hid HE1.out
  have HGD : Hid (w1.drew.heap[gb]? = some (.cells #[.int .i64 x] 55 (0, 0))) := Lib.hid HG1.out
  have KND : Hid (Kept w.heap.size w.heap.size w w1.drew) := Lib.hid KN.out.drew
  generalize w1.drew = wd at HRD HED HGD KND hH ⊢
  clear HR1 HE1 HG1 KN
  refine wpAnyH_take_at (i := 0) 16 (.agg Z0) rfl rfl (by kernel_rfl) (by kernel_rfl) (by kernel_rfl) (fun _ _ _ h => h) (yieldsIf_build0 (by kernel_rfl) _ rfl _ HB0.out) hH ?_
  simp only [List.setIfInBounds_toArray, List.set_cons_zero, List.set_cons_succ]
  refine wpAnyH_take_ex (i := 1) 17 rfl rfl (by kernel_rfl) (by kernel_rfl) (by kernel_rfl) (fun _ _ _ _ h => h) (by kernel_rfl) hH ?_
  apply Exists.intro
  apply And.intro
  · intro w9 _
    go_simp
    first | done | rfl
  simp only [List.setIfInBounds_toArray, List.set_cons_zero, List.set_cons_succ]
  refine wpAnyH_take_at (i := 2) 18 (.int .i64 x) rfl rfl (by kernel_rfl) (by kernel_rfl) (by kernel_rfl) (fun _ _ _ h => h) (yieldsIf_load_known (by kernel_rfl) 35 _ rfl (gb) (0) rfl (.int .i64 x) (fun w9 hw9 => HGL.out w9 hw9)) hH ?_
  simp only [List.setIfInBounds_toArray, List.set_cons_zero, List.set_cons_succ]
  refine wpAnyH_ready (rs := [3]) (by kernel_rfl) (by simp) ?_
  refine AllReadyH.cons rfl (fun K hK => ?_) AllReadyH.nil
  rw [if_pos (by rfl)]
  refine wp_store_row_none10 27 _ _ rfl rfl rb Z0 rfl rfl 27 Z HRD.out HZI.out HZS.out HZA.out ?_
  have r2 := setRow_heap wd rb Z Z0 _ _ HRD.out
  have e2 := (setRow_other wd rb eb Z0 HNG.out.2.2).trans HED.out
  have g2 := (setRow_other wd rb gb Z0 (Ne.symm HNG.out.1)).trans HGD.out
  have k2 : Hid (∀ base, base ≤ rb → base ≤ w.heap.size → Kept base base w (wd.setRow rb Z0)) := Lib.hid (fun base h1 h2 => Kept.ofBelow (below_setRow (KND.out.below h2 h2) h1 Z0) (Nat.le_refl _))
  refine hK.out _ _ g2 (fun hH => ?_)
  clear hK K
  generalize wd.setRow rb Z0 = w2 at r2 e2 g2 k2 hH ⊢
  have cE := int_cell w2 eb 0 _ _ _ e2 (v := .int .i64 y) rfl
  have fE : w2.frozen? ⟨eb, 0, none⟩ = false := by simp [World.frozen?, e2]
  have R2 := Lib.hid r2
  have E2 := Lib.hid e2
  clear r2 e2 g2 HRD HED HGD KND
  refine wpAnyH_ready (rs := [4]) (by kernel_rfl) (by simp) ?_
  refine AllReadyH.cons rfl (fun K hK => ?_) AllReadyH.nil
  rw [if_pos (by rfl)]
  go_simp
  refine hK.out _ _ ((Below.heap_setCell _ _ _ _ (Ne.symm HNG.out.2.1)).trans hH) (fun hH => ?_)
  clear hK K
  refine wpAnyH_done (by kernel_rfl) ?_ _
  refine NoPanic.normal ?_
  refine ⟨rfl, _, rfl, .tuple #[], results_none rfl _ _ _, rfl, rfl, ?_, ?_, fun base h1 h2 h3 => ?_⟩
  · rw [← HZ0.out]
    exact (Below.heap_setCell _ _ _ _ (fun h => HNG.out.2.2 h.symm)).trans R2.out
  · have := E2.out
    simp [World.setCell, Array.getElem?_modify, this]
  · exact (k2.out base h1 h3).set (.inr h2) 0 _

end Go.Proofs.YtcjcomeakkjiiaaDoor

namespace Go.Proofs.YtcjcomeakkjiiaaDoor
open Go.RowKit Go.Lib

set_option maxRecDepth 100000 in
theorem alloc_errno10 (w : World) : (Instr.alloc 35 true (.tuple #[])).run Tryd.prog w = .ok (.pointer (some ⟨w.heap.size, 0, none⟩)) (w.alloc (.cells #[.int .i64 0] 35)) := by kernel_rfl
theorem results_row_int {P : Program} {fn : Func} {p q : Tmp} {ty tz : TypeId} (h : fn.results = #[.cell p ty, .cell q tz]) (tmps : Array Value) (w : World) (g e : Nat) (t : TypeId) (cs : Array Value) (fr : Nat × Nat) (d : TypeDesc) (v : Value)
    (hp : tmps.getD p undef = .pointer (some ⟨g, 0, none⟩)) (hq : tmps.getD q undef = .pointer (some ⟨e, 0, none⟩)) (hg : w.heap[g]? = some (.cells cs t fr))
    (hu : P.underlying ty = some d) (hd : (match d with | .struct _ | .array _ _ => true | _ => false) = true) (hi : (P.info? ty).map (·.size) = some cs.size) (hv : (loadVar tz ⟨e, 0, none⟩).run P w = .ok v w) :
    (results fn tmps).run P w = .ok (.tuple #[.agg cs, v]) w := by
  have hp' : tmps[p]?.getD undef = .pointer (some ⟨g, 0, none⟩) := by simpa using hp
  have hq' : tmps[q]?.getD undef = .pointer (some ⟨e, 0, none⟩) := by simpa using hq
  simp [results, h, hp', hq', asAddr, run_loadVar_row w g t ty cs fr d hg hu hd hi, hv]

set_option maxRecDepth 100000 in
set_option maxHeartbeats 6400000 in
theorem unpack_calls10 (s : ByteArray) (w : World) (htab : Tab w) : Calls Tryd.prog 18 #[.string s] w fun e w' => e = .returned (.tuple #[.agg (Cm.unCg s.data.toList).cells.toArray, .int .i64 (Cm.unErr s.data.toList)]) ∧ Kept w.heap.size w.heap.size w w' := by
  have HRE := Lib.hid (fun (x : World) (k : Kept w.heap.size w.heap.size w x) => read_calls10 s x (htab.onto k))
  have HOK := Lib.hid (Cm.unCg_ok s.data.toList)
  have HUZ := Lib.hid (show Cm.unErr s.data.toList ≠ 0 → Cm.unCg s.data.toList = Cm.zero from fun h => by rw [Cm.unCg, if_neg h])
  obtain ⟨er, her⟩ : ∃ n, n = Cm.unErr s.data.toList := ⟨_, rfl⟩
  obtain ⟨DQ, hDQ⟩ : ∃ D, D = (Cm.unCg s.data.toList).cells.toArray := ⟨_, rfl⟩
  have HQI := Lib.hid (cgInfo (Cg.size HOK.out))
  have HQS := Lib.hid (show Cm.zero.cells.toArray.size = (Cm.unCg s.data.toList).cells.toArray.size by rw [Cg.size HOK.out, Cg.size Cm.zero_ok])
  have HQA := Lib.hid (Cm.unCg s.data.toList).all
  have HDZ := Lib.hid (show er ≠ 0 → DQ = Cm.zero.cells.toArray from fun h => by rw [hDQ, HUZ.out (by rw [← her]; exact h)])
  rw [← her, ← hDQ] at HRE ⊢
  rw [← hDQ] at HQI HQS HQA
  clear her hDQ HUZ HOK htab
  have hmf : ∀ (fn : Fn) (first cap : Array Value) (w : World), (Instr.makeFunc fn first cap).run Tryd.prog w = .ok (.func fn first cap) w := fun _ _ _ _ => rfl
  go_enter_defers Tryd.func18, Tryd.ntmps18
  go_upto_region 0 with fail
  refine wp_region_lit ?_
  refine @wpL_alloc _ _ _ _ _ _ _ _ ?hw79001 27 rfl _ (alloc_cg _) ?_
  case hw79001 => kernel_rfl
  simp only [Act.put, List.setIfInBounds_toArray, List.set_cons_zero, List.set_cons_succ]
  have k1 : Kept w.heap.size w.heap.size w (w.alloc (.cells Cm.zero.cells.toArray 27)) := (Kept.refl _ _ _).alloc (Nat.le_refl _) _
  have r1 := heap_new w (.cells Cm.zero.cells.toArray 27)
  have z1 : (w.alloc (.cells Cm.zero.cells.toArray 27)).heap.size = w.heap.size + 1 := by simp
  generalize w.alloc (.cells Cm.zero.cells.toArray 27) = w1 at k1 r1 z1 ⊢
  obtain ⟨rb, hrb⟩ : ∃ n, n = w.heap.size := ⟨_, rfl⟩
  rw [← hrb] at r1
  (try rw [← hrb])
  refine @wpL_alloc _ _ _ _ _ _ _ _ ?hw79002 35 rfl _ (alloc_errno10 _) ?_
  case hw79002 => kernel_rfl
  simp only [Act.put, List.setIfInBounds_toArray, List.set_cons_zero, List.set_cons_succ]
  have kk : Kept w1.heap.size w1.heap.size w1 (w1.alloc (.cells #[.int .i64 0] 35)) := (Kept.refl _ _ _).alloc (Nat.le_refl _) _
  have e2 := heap_new w1 (.cells #[.int .i64 0] 35)
  have r2 := row_kept r1 kk
  have k2 := k1.onto kk
  generalize w1.alloc (.cells #[.int .i64 0] 35) = w2 at kk e2 r2 k2 ⊢
  obtain ⟨eb, heb⟩ : ∃ n, n = w1.heap.size := ⟨_, rfl⟩
  rw [← heb] at e2
  (try rw [← heb])
  have HNE := Lib.hid (show rb ≠ eb ∧ w.heap.size ≤ rb ∧ w.heap.size ≤ eb by omega)
  have R2 := Lib.hid r2
  have E2 := Lib.hid e2
  have K2 := Lib.hid k2
  clear hrb heb kk e2 r2 k1 r1 z1 k2
  go_upto_region 2 with fail
  by_cases he : er = 0
  · subst he
    refine wp_region_lit ?_
    refine @BigFrame.wpList_want _ _ _ _ _ _ _ ?hw79003 ?_
    case hw79003 => kernel_rfl
    intro K hK
    go_simp
    refine hK _ _ ?_
    clear hK K
    refine @BigFrame.wpList_want _ _ _ _ _ _ _ ?hw79004 ?_
    case hw79004 => kernel_rfl
    intro K hK
    go_simp
    go_at_call 34
    refine (HRE.out _ K2.out).mono ?_
    rintro e w3 ⟨hq, _, k3⟩
    obtain rfl := hq rfl
    clear hq
    refine hK _ _ ?_
    clear hK K
    have R3 := Lib.hid (row_kept R2.out k3)
    have E3 := Lib.hid (row_kept E2.out k3)
    have K3 := Lib.hid (K2.out.onto k3)
    clear k3
    refine wpList_store_row rfl 27 _ _ rfl (rb) DQ rfl rfl 27 Cm.zero.cells.toArray (R3.out) (HQI.out) (HQS.out) (HQA.out) ?_
    simp only [Act.put]
    have r4 := setRow_heap w3 rb Cm.zero.cells.toArray DQ _ _ R3.out
    have e4 := (setRow_other w3 rb eb DQ (Ne.symm HNE.out.1)).trans E3.out
    have k4 : Kept w.heap.size w.heap.size w (w3.setRow rb DQ) := kept_setRow10 K3.out rb HNE.out.2.1 DQ
    generalize w3.setRow rb DQ = w4 at r4 e4 k4 ⊢
    have cE := int_cell w4 eb 0 _ _ _ e4 (v := .int .i64 0) rfl
    have fE : w4.frozen? ⟨eb, 0, none⟩ = false := by simp [World.frozen?, e4]
    have R5 : Hid ((w4.setCell ⟨eb, 0, none⟩ (.int .i64 0)).heap[rb]? = some (.cells DQ 27 (0, 0))) := Lib.hid ((Below.heap_setCell _ _ _ _ HNE.out.1).trans r4)
    have K5 : Hid (Kept w.heap.size w.heap.size w (w4.setCell ⟨eb, 0, none⟩ (.int .i64 0))) := Lib.hid (k4.set (.inr HNE.out.2.2) 0 _)
    have C5 : Hid ((w4.setCell ⟨eb, 0, none⟩ (.int .i64 0)).cell? ⟨eb, 0, none⟩ = some (.int .i64 0)) := Lib.hid (World.cell?_setCell_same _ _ _ (by rw [cE]))
    clear r4 k4
    refine @BigFrame.wpList_want _ _ _ _ _ _ _ ?hw79005 ?_
    case hw79005 => kernel_rfl
    intro K hK
    go_simp
    refine hK _ _ ?_
    clear hK K
    generalize w4.setCell ⟨eb, 0, none⟩ (.int .i64 0) = w5 at R5 K5 C5 ⊢
    clear cE fE e4
    go_wp2
    refine leaves_cons (f := 33) (args := #[.pointer (some ⟨rb, 0, none⟩), .pointer (some ⟨eb, 0, none⟩)]) (by simp) (by simp [go_sem]) ?_
    refine (catch_idle10 _ _ _).mono ?_
    rintro e u' w'' ⟨rfl, rfl, rfl⟩
    exact ⟨_, results_row_int rfl _ _ rb eb 27 DQ (0, 0) _ _ rfl rfl R5.out Tryd.underlying27 rfl HQI.out (load_errno10 C5.out), rfl, K5.out⟩
  · have HEZ := Lib.hid he
    clear he
    refine wp_region_lit ?_
    refine @BigFrame.wpList_want _ _ _ _ _ _ _ ?hw79006 ?_
    case hw79006 => kernel_rfl
    intro K hK
    go_simp
    refine hK _ _ ?_
    clear hK K
    refine @BigFrame.wpList_want _ _ _ _ _ _ _ ?hw79990 ?_
    case hw79990 => kernel_rfl
    intro K hK
    go_simp
    go_at_call 34
    refine (HRE.out _ K2.out).mono ?_
    rintro e w3 ⟨_, hq, k3⟩
    obtain rfl := hq HEZ.out
    clear hq
    have R3 := Lib.hid (row_kept R2.out k3)
    have E3 := Lib.hid (row_kept E2.out k3)
    have K3 := Lib.hid (K2.out.onto k3)
    have S3 := Lib.hid (Nat.le_trans K2.out.size k3.size)
    clear k3
    refine leaves_cons (f := 33) (args := #[.pointer (some ⟨rb, 0, none⟩), .pointer (some ⟨eb, 0, none⟩)]) (by simp) (by simp [go_sem]) ?_
    refine (catch_panics10 rb eb er 0 _ (Cg.size Cm.zero_ok) [] w3 R3.out E3.out HNE.out.1).mono ?_
    rintro e u' w'' ⟨rfl, rfl, h1, h2, h3⟩
    have HR := HDZ.out HEZ.out
    have h4 := h3 w.heap.size HNE.out.2.1 HNE.out.2.2 S3.out
    refine ⟨_, results_row_int rfl _ _ rb eb 27 Cm.zero.cells.toArray (0, 0) _ _ rfl rfl h1 Tryd.underlying27 rfl (cgInfo (Cg.size Cm.zero_ok)) (load_errno10 (int_cell _ eb 0 _ _ _ h2 (v := .int .i64 er) rfl)), by rw [HR], K3.out.trans h4⟩

end Go.Proofs.YtcjcomeakkjiiaaDoor

namespace Go.Proofs.YtcjcomeakkjiiaaDoor
open Go.RowKit Go.Lib

namespace Cm
def wChange : List UInt8 := [99, 104, 97, 110, 103, 101]
def id (p : Cg) : List UInt8 := Sm.sum (wChange ++ packed p)
theorem packed_le {p : Cg} (h : p.Ok) : (packed p).length ≤ 136 := by
  have := text_le h
  rw [packed, List.length_append, h.2.2]
  omega
theorem id_length (p : Cg) : (id p).length = 32 := sum_length _
end Cm
theorem sum_pair10 (a b : List UInt8) (blk : Nat) (u : World) (s t : ByteArray) (hs : s = str a) (ht : t = str b) (h : u.heap[blk]? = some (.cells #[.string s, .string t] 9 (0, 0))) (hl : a.length + b.length ≤ 1000000) :
    Calls Tryd.prog 32 #[.slice (some ⟨blk, 0, none⟩) 2 2] u fun e w' => e = .returned (.agg (bcells (Sm.sum (a ++ b))).toArray) ∧ Kept u.heap.size u.heap.size u w' := by
  subst hs ht
  have hj : joined [str a, str b] [str a, str b].length = a ++ b := by simp [joined, str]
  have := sum_calls [str a, str b] (some ⟨blk, 0, none⟩) 2 blk 0 u (Lib.hid (by simp)) (Lib.hid (by rw [hj, List.length_append]; omega)) (fun j hj => by
    have hj2 : j < 2 := by simpa using hj
    refine ⟨rfl, lt_of_block h, ?_⟩
    rw [cell_of_row u blk (0 + j) _ _ _ h]
    match j, hj2 with
    | 0, _ => rfl
    | 1, _ => rfl)
  rw [hj] at this
  exact this
set_option maxRecDepth 100000 in
theorem alloc_hash22 (w : World) : (Instr.alloc 22 true (.tuple #[])).run Tryd.prog w = .ok (.pointer (some ⟨w.heap.size, 0, none⟩)) (w.alloc (.cells zeros32 22)) := by kernel_rfl
set_option maxRecDepth 100000 in
theorem hashSz22 {l : List UInt8} (h : l.length = 32) : (Tryd.prog.info? 22).map (·.size) = some (bcells l).toArray.size := by rw [List.size_toArray, bcells_length, h]; kernel_rfl

set_option maxRecDepth 100000 in
set_option maxHeartbeats 6400000 in
theorem id_bad10 (p : Cg) (hp : p.Ok) (hr : Cm.right p = false) (w : World) : Calls Tryd.prog 16 #[.agg p.cells.toArray] w fun e w' => e = .returned (.agg (bcells Cm.z32).toArray) ∧ Kept w.heap.size w.heap.size w w' := by
  have HLD := Lib.hid (fun (x : World) (b : Nat) (h : x.heap[b]? = some (.cells p.cells.toArray 27 (0, 0))) => load_cg h hp)
  have HRI := Lib.hid (fun x => right_calls10 p hp x)
  rw [hr] at HRI
  have HIU := Lib.hid (hashSz10 (l := Cm.z32) rfl)
  have HZU := Lib.hid (show zeros32.size = (bcells Cm.z32).toArray.size from rfl)
  have HAU := Lib.hid (bcells_all Cm.z32)
  have HB0 := Lib.hid build_hash0
  obtain ⟨D, hD⟩ : ∃ D, D = p.cells.toArray := ⟨_, rfl⟩
  obtain ⟨zc, hzc⟩ : ∃ D, D = (bcells Cm.z32).toArray := ⟨_, rfl⟩
  rw [← hD] at HLD HRI ⊢
  rw [← hzc] at HIU HZU HAU HB0 ⊢
  clear hD hzc hp hr
  go_enter Tryd.func16, Tryd.ntmps16
  go_upto_region 0 with fail
  refine wp_region_lit ?_
  refine @BigFrame.wpList_want _ _ _ _ _ _ _ ?hw81001 ?_
  case hw81001 => kernel_rfl
  intro K hK
  go_simp
  refine hK _ _ ?_
  clear hK K
  have R1 := heap_new w (.cells D 27)
  have k1 : Kept w.heap.size w.heap.size w (w.alloc (.cells D 27)) := (Kept.refl _ _ _).alloc (Nat.le_refl _) _
  generalize w.alloc (.cells D 27) = w1 at R1 k1 ⊢
  obtain ⟨pb, hpb⟩ : ∃ pb, pb = w.heap.size := ⟨_, rfl⟩
  rw [← hpb] at R1
  (try rw [← hpb])
  clear hpb
  refine @wpL_alloc _ _ _ _ _ _ _ _ ?hw81002 23 rfl _ (alloc_hash10 _) ?_
  case hw81002 => kernel_rfl
  simp only [Act.put, List.setIfInBounds_toArray, List.set_cons_zero, List.set_cons_succ]
  have kk : Kept w1.heap.size w1.heap.size w1 (w1.alloc (.cells zeros32 23)) := (Kept.refl _ _ _).alloc (Nat.le_refl _) _
  have r2 := heap_new w1 (.cells zeros32 23)
  have r1 := row_kept R1 kk
  have K2 := Lib.hid (k1.onto kk)
  have HRW := Lib.hid (show w.heap.size ≤ w1.heap.size from k1.size)
  generalize w1.alloc (.cells zeros32 23) = w2 at r1 r2 K2 ⊢
  obtain ⟨rb, hrb⟩ : ∃ rb, rb = w1.heap.size := ⟨_, rfl⟩
  rw [← hrb] at r2 HRW
  (try rw [← hrb])
  clear hrb kk k1 R1
  have R1 := Lib.hid r1
  have R2 := Lib.hid r2
  clear r1 r2
  go_upto_region 1 with fail
  refine wp_region_lit ?_
  refine @wpList_load_known _ _ _ _ _ _ _ ?hw81004 27 (.tmp 1) rfl (pb) (0) rfl (.agg D) (HLD.out _ _ R1.out) ?_
  case hw81004 => kernel_rfl
  simp only [Act.put, List.setIfInBounds_toArray, List.set_cons_zero, List.set_cons_succ]
  refine @BigFrame.wpList_want _ _ _ _ _ _ _ ?hw81003 ?_
  case hw81003 => kernel_rfl
  intro K hK
  go_simp
  go_at_call 9
  refine (HRI.out _).mono ?_
  rintro e w3 ⟨rfl, k3⟩
  refine hK _ _ ?_
  clear hK K
  refine @BigFrame.wpList_want _ _ _ _ _ _ _ ?hw81005 ?_
  case hw81005 => kernel_rfl
  intro K hK
  go_simp
  refine hK _ _ ?_
  clear hK K
  have R13 := Lib.hid (row_kept R1.out k3)
  have R23 := Lib.hid (row_kept R2.out k3)
  have K3 := Lib.hid (K2.out.onto k3)
  clear k3
  go_upto_region 2 with fail
  refine wp_region_lit ?_
  refine @wpL_build0 _ _ _ _ _ _ _ ?hw81006 23 rfl _ (HB0.out _) ?_
  case hw81006 => kernel_rfl
  simp only [Act.put, List.setIfInBounds_toArray, List.set_cons_zero, List.set_cons_succ]
  refine wpList_store_row rfl 23 _ _ rfl (rb) zc rfl rfl 23 zeros32 (R23.out) HIU.out HZU.out HAU.out ?_
  simp only [Act.put]
  have R9 := setRow_heap w3 rb zeros32 zc _ _ (R23.out)
  have k9 : Kept w.heap.size w.heap.size w (w3.setRow rb zc) := kept_setRow10 (K3.out) rb HRW.out zc
  generalize w3.setRow rb zc = w9 at R9 k9 ⊢
  go_wp2
  refine bodyPost_ret (results_cell_row rfl _ _ rb 23 zc (0, 0) _ rfl R9 Tryd.underlying23 rfl HIU.out) rfl ?_
  exact ⟨rfl, k9⟩

set_option maxRecDepth 100000 in
set_option maxHeartbeats 6400000 in
theorem id_ok10 (p : Cg) (hp : p.Ok) (hr : Cm.right p = true) (w : World) (htab : Tab w) : Calls Tryd.prog 16 #[.agg p.cells.toArray] w fun e w' => e = .returned (.agg (bcells (Cm.id p)).toArray) ∧ Kept w.heap.size w.heap.size w w' := by
  have HLD := Lib.hid (fun (x : World) (b : Nat) (h : x.heap[b]? = some (.cells p.cells.toArray 27 (0, 0))) => load_cg h hp)
  have HRI := Lib.hid (fun x => right_calls10 p hp x)
  rw [hr] at HRI
  have HPK := Lib.hid (fun (x : World) (k : Kept w.heap.size w.heap.size w x) => pack_ok10 p hp hr x (htab.onto k))
  have HSU := Lib.hid (fun (blk : Nat) (u : World) (t : ByteArray) (ht : t = str (Cm.packed p)) (h : u.heap[blk]? = some (.cells #[.string ⟨#[99, 104, 97, 110, 103, 101]⟩, .string t] 9 (0, 0))) => sum_pair10 Cm.wChange (Cm.packed p) blk u _ t rfl ht h (by have := Cm.packed_le hp; show 6 + _ ≤ _; omega))
  have HIU := Lib.hid (hashSz10 (Cm.id_length p))
  have HZU := Lib.hid (show zeros32.size = (bcells (Cm.id p)).toArray.size by rw [zeros32_size, List.size_toArray, bcells_length, Cm.id_length])
  have HAU := Lib.hid (bcells_all (Cm.id p))
  obtain ⟨D, hD⟩ : ∃ D, D = p.cells.toArray := ⟨_, rfl⟩
  obtain ⟨ic, hic⟩ : ∃ D, D = (bcells (Cm.id p)).toArray := ⟨_, rfl⟩
  obtain ⟨ps, hps⟩ : ∃ t, t = str (Cm.packed p) := ⟨_, rfl⟩
  have HPS := Lib.hid hps
  have HIC := Lib.hid (show (bcells (Sm.sum (Cm.wChange ++ Cm.packed p))).toArray = ic from hic.symm)
  rw [HIC.out] at HSU
  rw [← hD] at HLD HRI HPK ⊢
  rw [← hic] at HIU HZU HAU ⊢
  rw [← hps] at HPK
  clear hD hic hps hp hr htab
  go_enter Tryd.func16, Tryd.ntmps16
  go_upto_region 0 with fail
  refine wp_region_lit ?_
  refine @BigFrame.wpList_want _ _ _ _ _ _ _ ?hw81007 ?_
  case hw81007 => kernel_rfl
  intro K hK
  go_simp
  refine hK _ _ ?_
  clear hK K
  have R1 := heap_new w (.cells D 27)
  have k1 : Kept w.heap.size w.heap.size w (w.alloc (.cells D 27)) := (Kept.refl _ _ _).alloc (Nat.le_refl _) _
  generalize w.alloc (.cells D 27) = w1 at R1 k1 ⊢
  obtain ⟨pb, hpb⟩ : ∃ pb, pb = w.heap.size := ⟨_, rfl⟩
  rw [← hpb] at R1
  (try rw [← hpb])
  clear hpb
  refine @wpL_alloc _ _ _ _ _ _ _ _ ?hw81008 23 rfl _ (alloc_hash10 _) ?_
  case hw81008 => kernel_rfl
  simp only [Act.put, List.setIfInBounds_toArray, List.set_cons_zero, List.set_cons_succ]
  have kk : Kept w1.heap.size w1.heap.size w1 (w1.alloc (.cells zeros32 23)) := (Kept.refl _ _ _).alloc (Nat.le_refl _) _
  have r2 := heap_new w1 (.cells zeros32 23)
  have r1 := row_kept R1 kk
  have K2 := Lib.hid (k1.onto kk)
  have HRW := Lib.hid (show w.heap.size ≤ w1.heap.size from k1.size)
  generalize w1.alloc (.cells zeros32 23) = w2 at r1 r2 K2 ⊢
  obtain ⟨rb, hrb⟩ : ∃ rb, rb = w1.heap.size := ⟨_, rfl⟩
  rw [← hrb] at r2 HRW
  (try rw [← hrb])
  clear hrb kk k1 R1
  have R1 := Lib.hid r1
  have R2 := Lib.hid r2
  clear r1 r2
  go_upto_region 1 with fail
  refine wp_region_lit ?_
  refine @wpList_load_known _ _ _ _ _ _ _ ?hw81010 27 (.tmp 1) rfl (pb) (0) rfl (.agg D) (HLD.out _ _ R1.out) ?_
  case hw81010 => kernel_rfl
  simp only [Act.put, List.setIfInBounds_toArray, List.set_cons_zero, List.set_cons_succ]
  refine @BigFrame.wpList_want _ _ _ _ _ _ _ ?hw81009 ?_
  case hw81009 => kernel_rfl
  intro K hK
  go_simp
  go_at_call 9
  refine (HRI.out _).mono ?_
  rintro e w3 ⟨rfl, k3⟩
  refine hK _ _ ?_
  clear hK K
  refine @BigFrame.wpList_want _ _ _ _ _ _ _ ?hw81011 ?_
  case hw81011 => kernel_rfl
  intro K hK
  go_simp
  refine hK _ _ ?_
  clear hK K
  have R13 := Lib.hid (row_kept R1.out k3)
  have R23 := Lib.hid (row_kept R2.out k3)
  have K3 := Lib.hid (K2.out.onto k3)
  clear k3
  go_upto_region 3 with fail
  refine wp_region_lit ?_
  refine @wpList_load_known _ _ _ _ _ _ _ ?hw81014 27 (.tmp 1) rfl (pb) (0) rfl (.agg D) (HLD.out _ _ R13.out) ?_
  case hw81014 => kernel_rfl
  simp only [Act.put, List.setIfInBounds_toArray, List.set_cons_zero, List.set_cons_succ]
  refine @BigFrame.wpList_want _ _ _ _ _ _ _ ?hw81012 ?_
  case hw81012 => kernel_rfl
  intro K hK
  go_simp
  go_at_call 17
  refine (HPK.out _ K3.out).mono ?_
  rintro e w4 ⟨rfl, k4⟩
  have K4 := Lib.hid (K3.out.onto k4)
  have R24 := Lib.hid (row_kept R23.out k4)
  clear k4
  refine hK _ _ ?_
  clear hK K
  refine @BigFrame.wpList_want _ _ _ _ _ _ _ ?hw81015 ?_
  case hw81015 => kernel_rfl
  intro K hK
  go_simp
  refine hK _ _ ?_
  clear hK K
  refine @BigFrame.wpList_want _ _ _ _ _ _ _ ?hw81013 ?_
  case hw81013 => kernel_rfl
  intro K hK
  go_simp
  go_at_call 32
  refine (HSU.out _ _ ps HPS.out (heap_new _ _)).mono ?_
  rintro e w5 ⟨rfl, k5⟩
  have kb : Kept w4.heap.size w4.heap.size w4 (w4.alloc (.cells #[.string ⟨#[99, 104, 97, 110, 103, 101]⟩, .string ps] 9)) := (Kept.refl _ _ _).alloc (Nat.le_refl _) _
  have K5 := Lib.hid ((K4.out.onto kb).onto k5)
  have R25 := Lib.hid (row_kept (row_kept R24.out kb) k5)
  clear kb k5
  refine hK _ _ ?_
  clear hK K
  refine wpList_store_row rfl 23 _ _ rfl (rb) ic rfl rfl 23 zeros32 (R25.out) HIU.out HZU.out HAU.out ?_
  simp only [Act.put]
  have R9 := setRow_heap w5 rb zeros32 ic _ _ (R25.out)
  have k9 : Kept w.heap.size w.heap.size w (w5.setRow rb ic) := kept_setRow10 (K5.out) rb HRW.out ic
  generalize w5.setRow rb ic = w9 at R9 k9 ⊢
  go_wp2
  refine bodyPost_ret (results_cell_row rfl _ _ rb 23 ic (0, 0) _ rfl R9 Tryd.underlying23 rfl HIU.out) rfl ?_
  exact ⟨rfl, k9⟩

set_option maxRecDepth 100000 in
set_option maxHeartbeats 6400000 in
theorem refid_calls10 (p : Cg) (hp : p.Ok) (hr : Cm.right p = true) (w : World) : Calls Tryd.prog 21 #[.agg p.cells.toArray] w fun e w' => e = .returned (.agg (bcells (Cm.id p)).toArray) ∧ Kept w.heap.size w.heap.size w w' := by
  have HLD := Lib.hid (fun (x : World) (b : Nat) (h : x.heap[b]? = some (.cells p.cells.toArray 27 (0, 0))) => load_cg h hp)
  have HPK := Lib.hid (fun (x : World) => refpack_calls10 p hp hr x)
  have HIU := Lib.hid (hashSz22 (Cm.id_length p))
  have HZU := Lib.hid (show zeros32.size = (bcells (Cm.id p)).toArray.size by rw [zeros32_size, List.size_toArray, bcells_length, Cm.id_length])
  have HAU := Lib.hid (bcells_all (Cm.id p))
  have HSU := Lib.hid (fun (t : ByteArray) (ht : t = str (Cm.wChange ++ Cm.packed p)) x => (show Calls Tryd.prog 36 #[.string t] x fun e w' => e = .returned (.agg (bcells (Cm.id p)).toArray) ∧ Kept x.heap.size x.heap.size x w' from by
    subst ht
    have := refsum_calls (str (Cm.wChange ++ Cm.packed p)) x (by rw [str_size, List.length_append]; have := Cm.packed_le hp; show 6 + _ ≤ _; omega)
    rw [str_back] at this
    exact this))
  obtain ⟨D, hD⟩ : ∃ D, D = p.cells.toArray := ⟨_, rfl⟩
  obtain ⟨ic, hic⟩ : ∃ D, D = (bcells (Cm.id p)).toArray := ⟨_, rfl⟩
  obtain ⟨ps, hps⟩ : ∃ t, t = str (Cm.packed p) := ⟨_, rfl⟩
  have HCC := Lib.hid (show (⟨#[99, 104, 97, 110, 103, 101]⟩ : ByteArray) ++ ps = str (Cm.wChange ++ Cm.packed p) by rw [hps, ← str_append]; rfl)
  have hz : ps.size ≤ 136 := by rw [hps, str_size]; exact Cm.packed_le hp
  have zz : ¬ 9223372036854775807 < (⟨#[99, 104, 97, 110, 103, 101]⟩ : ByteArray).size + ps.size := by
    show ¬ 9223372036854775807 < 6 + _
    omega
  clear hz
  have zz2 : ¬ 9223372036854775807 < 6 + ps.size := zz
  rw [← hD] at HLD HPK ⊢
  rw [← hic] at HIU HZU HAU HSU ⊢
  rw [← hps] at HPK
  clear hD hic hps hp hr
  go_enter Tryd.func21, Tryd.ntmps21
  go_upto_region 0 with fail
  refine wp_region_lit ?_
  refine @BigFrame.wpList_want _ _ _ _ _ _ _ ?hw81016 ?_
  case hw81016 => kernel_rfl
  intro K hK
  go_simp
  refine hK _ _ ?_
  clear hK K
  have R1 := heap_new w (.cells D 27)
  have k1 : Kept w.heap.size w.heap.size w (w.alloc (.cells D 27)) := (Kept.refl _ _ _).alloc (Nat.le_refl _) _
  generalize w.alloc (.cells D 27) = w1 at R1 k1 ⊢
  obtain ⟨pb, hpb⟩ : ∃ pb, pb = w.heap.size := ⟨_, rfl⟩
  rw [← hpb] at R1
  (try rw [← hpb])
  clear hpb
  refine @wpL_alloc _ _ _ _ _ _ _ _ ?hw81017 22 rfl _ (alloc_hash22 _) ?_
  case hw81017 => kernel_rfl
  simp only [Act.put, List.setIfInBounds_toArray, List.set_cons_zero, List.set_cons_succ]
  have kk : Kept w1.heap.size w1.heap.size w1 (w1.alloc (.cells zeros32 22)) := (Kept.refl _ _ _).alloc (Nat.le_refl _) _
  have r2 := heap_new w1 (.cells zeros32 22)
  have r1 := row_kept R1 kk
  have K2 := Lib.hid (k1.onto kk)
  have HRW := Lib.hid (show w.heap.size ≤ w1.heap.size from k1.size)
  generalize w1.alloc (.cells zeros32 22) = w2 at r1 r2 K2 ⊢
  obtain ⟨rb, hrb⟩ : ∃ rb, rb = w1.heap.size := ⟨_, rfl⟩
  rw [← hrb] at r2 HRW
  (try rw [← hrb])
  clear hrb kk k1 R1
  have R1 := Lib.hid r1
  have R2 := Lib.hid r2
  clear r1 r2
  go_upto_region 1 with fail
  refine wp_region_lit ?_
  refine @wpList_load_known _ _ _ _ _ _ _ ?hw81020 27 (.tmp 1) rfl (pb) (0) rfl (.agg D) (HLD.out _ _ R1.out) ?_
  case hw81020 => kernel_rfl
  simp only [Act.put, List.setIfInBounds_toArray, List.set_cons_zero, List.set_cons_succ]
  refine @BigFrame.wpList_want _ _ _ _ _ _ _ ?hw81018 ?_
  case hw81018 => kernel_rfl
  intro K hK
  go_simp
  go_at_call 22
  refine (HPK.out _).mono ?_
  rintro e w4 ⟨rfl, k4⟩
  have K4 := Lib.hid (K2.out.onto k4)
  have R24 := Lib.hid (row_kept R2.out k4)
  clear k4
  refine hK _ _ ?_
  clear hK K
  refine @BigFrame.wpList_want _ _ _ _ _ _ _ ?hw81021 ?_
  case hw81021 => kernel_rfl
  intro K hK
  go_simp
  refine hK _ _ ?_
  clear hK K
  refine @BigFrame.wpList_want _ _ _ _ _ _ _ ?hw81019 ?_
  case hw81019 => kernel_rfl
  intro K hK
  go_simp
  go_at_call 36
  refine (HSU.out _ HCC.out _).mono ?_
  rintro e w5 ⟨rfl, k5⟩
  have K5 := Lib.hid (K4.out.onto k5)
  have R25 := Lib.hid (row_kept R24.out k5)
  clear k5
  refine hK _ _ ?_
  clear hK K
  refine wpList_store_row rfl 22 _ _ rfl (rb) ic rfl rfl 22 zeros32 (R25.out) HIU.out HZU.out HAU.out ?_
  simp only [Act.put]
  have R9 := setRow_heap w5 rb zeros32 ic _ _ (R25.out)
  have k9 : Kept w.heap.size w.heap.size w (w5.setRow rb ic) := kept_setRow10 (K5.out) rb HRW.out ic
  generalize w5.setRow rb ic = w9 at R9 k9 ⊢
  go_wp2
  refine bodyPost_ret (results_cell_row rfl _ _ rb 22 ic (0, 0) _ rfl R9 Tryd.underlying22 rfl HIU.out) rfl ?_
  exact ⟨rfl, k9⟩

end Go.Proofs.YtcjcomeakkjiiaaDoor
