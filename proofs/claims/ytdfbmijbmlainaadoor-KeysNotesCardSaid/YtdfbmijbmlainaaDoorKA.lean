/-
  KeyMath; Keep; KeySmall; KeySpot; KeyTag: several texts in one.
-/
import Derived.Test.YtdfbmijbmlainaaDoorGL
import Derived.Test.YtdfbmijbmlainaaDoorGV
import Derived.Test.YtdfbmijbmlainaaDoorHeldEx
import Derived.Test.YtdfbmijbmlainaaDoorGA
import Derived.Lib.Hide
import Derived.Deep.MidRow
import Derived.Deep.RegionWith
import Derived.Deep.Cut
import Derived.Laws.BitsLemmas

namespace Go.Proofs.YtdfbmijbmlainaaDoor

namespace Ky
def wSaid : List UInt8 := [115, 97, 105, 100]
def wSpot : List UInt8 := [115, 112, 111, 116]
def wTag : List UInt8 := [116, 97, 103]
def wApp : List UInt8 := [97, 112, 112]
def wWelcome : List UInt8 := [119, 101, 108, 99, 111, 109, 101]
def wEpoch : List UInt8 := [101, 112, 111, 99, 104]
def wInit : List UInt8 := [105, 110, 105, 116]
def wConfirm : List UInt8 := [99, 111, 110, 102, 105, 114, 109]
def wApps : List UInt8 := [97, 112, 112, 115]
def wExport : List UInt8 := [101, 120, 112, 111, 114, 116]
def z32 : List UInt8 := List.replicate 32 0
def said (b c : List UInt8) : List UInt8 := Sm.sum (wSaid ++ b ++ c)
def tag (k s : List UInt8) : List UInt8 := Mc.code k (wTag ++ s)
def spot (c : List UInt8) : Nat := Wm.valOf 0 ((Sm.sum (wSpot ++ c)).take 4)
def ctx (p : List UInt8) (n : Nat) (t s : List UInt8) : List UInt8 := p ++ Wm.enc n ++ t ++ s
def app (k : List UInt8) (n : Nat) : List UInt8 := Mc.derive k wApp (Wm.enc n)
theorem said_length (b c : List UInt8) : (said b c).length = 32 := sum_length _
theorem tag_length (k s : List UInt8) : (tag k s).length = 32 := Mc.code_length _ _
theorem app_length (k : List UInt8) (n : Nat) : (app k n).length = 32 := Mc.derive_length _ _ _
theorem spot_lt (c : List UInt8) : spot c < 4294967296 := by
  have h := Wm.valOf_lt ((Sm.sum (wSpot ++ c)).take 4)
  have h2 : ((Sm.sum (wSpot ++ c)).take 4).length ≤ 4 := List.length_take_le _ _
  have h3 : 256 ^ ((Sm.sum (wSpot ++ c)).take 4).length ≤ 256 ^ 4 := Nat.pow_le_pow_right (by omega) h2
  have h5 : (256 : Nat) ^ 4 = 4294967296 := by decide
  rw [spot]
  omega
/-- What is derived step by step: of which secret, the label, the context. -/
def key (j c : List UInt8) : Nat → List UInt8
  | 0 => j
  | 1 => Mc.derive j wWelcome []
  | 2 => Mc.derive j wEpoch c
  | 3 => Mc.derive (Mc.derive j wEpoch c) wInit []
  | 4 => Mc.derive (Mc.derive j wEpoch c) wConfirm []
  | 5 => Mc.derive (Mc.derive j wEpoch c) wApps []
  | _ => Mc.derive (Mc.derive j wEpoch c) wExport []
theorem key_length {j : List UInt8} (hj : j.length = 32) (c : List UInt8) (i : Nat) : (key j c i).length = 32 := by
  unfold key
  split <;> first | exact hj | exact Mc.derive_length _ _ _
end Ky
end Go.Proofs.YtdfbmijbmlainaaDoor

namespace Go.Proofs.YtdfbmijbmlainaaDoor
open Go.RowKit

theorem row_kept {w x : World} {b : Nat} {o : Obj} (h : w.heap[b]? = some o) (k : Kept w.heap.size w.heap.size w x) : x.heap[b]? = some o := (k.block b (lt_of_block h) (Nat.ne_of_lt (lt_of_block h))).trans h
theorem Kept.onto {w w1 w2 : World} (k : Kept w.heap.size w.heap.size w w1) (k2 : Kept w1.heap.size w1.heap.size w1 w2) : Kept w.heap.size w.heap.size w w2 := k.trans (k2.mono k.size (fun _ hi _ => Nat.ne_of_lt (Nat.lt_of_lt_of_le hi k.size)))
theorem kept_setRow10 {w w1 : World} {c : Nat} (k : Kept w.heap.size c w w1) (rb : Nat) (h : w.heap.size ≤ rb) (cs : Array Value) : Kept w.heap.size c w (w1.setRow rb cs) :=
  k.trans ⟨rfl, rfl, rfl, by simp [World.setRow], fun i hi _ => setRow_other w1 rb i cs (by omega)⟩
theorem yieldsIf_build0 {P : Program} {ops : Array Oper} {S : World → Prop} {op : Oper} {a : Act} (hw : Region.wanted op (yielded ops a.tmps) = true) (t : TypeId) (ho : op.op = .build t #[]) (r : Value) (hr : ∀ w, (Instr.build t #[]).run P w = .ok r w) : YieldsIf P ops S op r a :=
  .inl ⟨hw, fun w _ => by
    unfold execOp
    simp only [ho, List.map_toArray, List.map_nil, Sem.run_bind, hr, Result.andThen_ok, Sem.run_pure]⟩
section
variable {P : Program} {ops : Array Oper} {a : Act} {S : World → Prop} {rest : List Oper} {o : Oper} {w : World} {Q : Exit → Act → World → Prop}
theorem yieldsIf_eql10 {op : Oper} (hw : Region.wanted op (yielded ops a.tmps) = true) (t t2 : TypeId) (x y : Operand) (ho : op.op = .binOp .eql t x y t2) (A B : Array Value) (hx : a.eval x = .agg A) (hy : a.eval y = .agg B) (hg : P.eqGuardType P.depth t = false) (r : Bool) (hr : ∀ w, (Op.equalIn 10000 t (.agg A) (.agg B)).run P w = .ok r w) : YieldsIf P ops S op (.bool r) a :=
  .inl ⟨hw, fun w _ => by
    unfold execOp
    simp only [ho, hx, hy, Sem.run_bind, run_eqGuard_agg _ _ _ _ _ _ _ hg, run_eql_struct, hr, Result.andThen_ok, Sem.run_pure]⟩
theorem wpL_eql10 (hw : Region.wanted o (yielded ops a.tmps) = true) (t t2 : TypeId) (x y : Operand) (ho : o.op = .binOp .eql t x y t2) (A B : Array Value) (hx : a.eval x = .agg A) (hy : a.eval y = .agg B) (hg : P.eqGuardType P.depth t = false) (r : Bool) (hr : (Op.equalIn 10000 t (.agg A) (.agg B)).run P w = .ok r w) (hk : wpList P ops Q rest (a.put o.dst (.bool r)) w) : wpList P ops Q (o :: rest) a w := by
  refine wpList_step fun K hK => ?_
  rw [if_pos hw]
  unfold Oper.wp execOp
  simp only [ho, hx, hy, Sem.run_bind, run_eqGuard_agg _ _ _ _ _ _ _ hg, run_eql_struct, hr, Result.andThen_ok, Sem.run_pure]
  exact hK _ _ hk
/-- Taken first, its value found by the walk. -/
theorem heldTo_take_ex {md : Region.Mode} {k i : Nat} {oi : Oper} (d : Tmp) {n : Nat} {listed : Array Bool} {tm : Array Value} {df : List Deferred} (hi : ops[i]? = some oi) (hd : oi.dst = some d)
    (hs : Region.noSelect ops = true) (hf : Region.free md ops listed i = true) (hr : (Region.ready md ops listed).contains i = true) (hk : waitsFor md ops k i = true)
    (hQ : ∀ (c : _) (a : Act) (v : Value) w, Q (.panic c) (a.put oi.dst v) w → Q (.panic c) a w) (hw : Region.wanted oi (yielded ops tm) = true) (hS : S w)
    (h : ∃ v, (∀ w, S w → (execOp (Act.mk tm df).eval oi).run P w = .ok (.value v) w) ∧ heldTo P md ops Q S k n (listed.setIfInBounds i true) ⟨tm.setIfInBounds d v, df⟩ w) : heldTo P md ops Q S k (n + 1) listed ⟨tm, df⟩ w := by
  obtain ⟨v, h1, h2⟩ := h
  exact heldTo_take d v hi hd hs hf hr hk (fun c a w => hQ c a v w) (.inl ⟨hw, h1⟩) hS h2
theorem wp_store_row_none11 {a : Act} {K : Act → World → Prop} (ty : TypeId) (x y : Operand) (ho : o.op = .store ty x y) (hd : o.dst = none) (g : Nat) (cells : Array Value) (hx : a.eval x = .pointer (some ⟨g, 0, none⟩)) (hy : a.eval y = .agg cells)
    (t : TypeId) (old : Array Value) (hg : w.heap[g]? = some (.cells old t (0, 0))) (hi : (P.info? ty).map (·.size) = some cells.size) (hold : old.size = cells.size) (h1 : cells.all (·.oneCell') = true)
    (h : K a (w.setRow g cells)) : o.wp P a w K Q :=
  wp_store_row ty x y ho g cells hx hy t old hg hi hold h1 (by rw [hd]; exact h)
theorem wp_store_mid_none11 {a : Act} {K : Act → World → Prop} (ty : TypeId) (x y : Operand) (ho : o.op = .store ty x y) (hd : o.dst = none) (b k : Nat) (cells : Array Value) (hx : a.eval x = .pointer (some ⟨b, k, none⟩)) (hy : a.eval y = .agg cells)
    (ht : w.there b k cells.size) (hi : (P.info? ty).map (·.size) = some cells.size) (h1 : cells.all (·.oneCell') = true) (h : K a (w.setCells b k cells.toList)) : o.wp P a w K Q :=
  wp_store_mid ty x y ho b k cells hx hy ht hi h1 (by rw [hd]; exact h)
end

end Go.Proofs.YtdfbmijbmlainaaDoor

namespace Go.Proofs.YtdfbmijbmlainaaDoor
open Go.RowKit Go.Lib

theorem keyInfo11 {l : List UInt8} (h : l.length = 32) : (Tryd.prog.info? 23).map (·.size) = some (bcells l).toArray.size := by rw [shaInfo30, List.size_toArray, bcells_length, h]
theorem keyInfo22 {l : List UInt8} (h : l.length = 32) : (Tryd.prog.info? 22).map (·.size) = some (bcells l).toArray.size := by rw [macInfo24, List.size_toArray, bcells_length, h]
theorem keySize11 {l : List UInt8} (h : l.length = 32) : zeros32.size = (bcells l).toArray.size := by rw [zeros32_size, List.size_toArray, bcells_length, h]
theorem load_hash11 {w : World} {b : Nat} {l : List UInt8} (hl : l.length = 32) (h : w.heap[b]? = some (.cells (bcells l).toArray 23 (0, 0))) : (loadVar 23 ⟨b, 0, none⟩).run Tryd.prog w = .ok (.agg (bcells l).toArray) w :=
  run_loadVar_row w b 23 23 _ (0, 0) _ h Tryd.underlying23 rfl (keyInfo11 hl)
theorem load_arr11 {w : World} {b : Nat} {l : List UInt8} (hl : l.length = 32) (h : w.heap[b]? = some (.cells (bcells l).toArray 22 (0, 0))) : (loadVar 22 ⟨b, 0, none⟩).run Tryd.prog w = .ok (.agg (bcells l).toArray) w :=
  run_loadVar_row w b 22 22 _ (0, 0) _ h Tryd.underlying22 rfl (keyInfo22 hl)
set_option maxRecDepth 100000 in
theorem alloc_hash11 (w : World) : (Instr.alloc 23 true (.tuple #[])).run Tryd.prog w = .ok (.pointer (some ⟨w.heap.size, 0, none⟩)) (w.alloc (.cells zeros32 23)) := by kernel_rfl
set_option maxRecDepth 100000 in
theorem alloc_arr11 (w : World) : (Instr.alloc 22 true (.tuple #[])).run Tryd.prog w = .ok (.pointer (some ⟨w.heap.size, 0, none⟩)) (w.alloc (.cells zeros32 22)) := by kernel_rfl
set_option maxRecDepth 100000 in
theorem build_hash11 (w : World) : (Instr.build 23 #[]).run Tryd.prog w = .ok (.agg (bcells Ky.z32).toArray) w := by kernel_rfl
/-- The digest of texts in a row of memory. -/
theorem sum_row2 (a b : ByteArray) (blk : Nat) (u : World) (h : u.heap[blk]? = some (.cells #[.string a, .string b] 9 (0, 0))) (ha : a.size < 268435456) (hb : b.size < 268435456) :
    Calls Tryd.prog 34 #[.slice (some ⟨blk, 0, none⟩) 2 2] u fun e w' => e = .returned (.agg (bcells (Sm.sum (a.data.toList ++ b.data.toList))).toArray) ∧ Kept u.heap.size u.heap.size u w' := by
  have hj : joined [a, b] [a, b].length = a.data.toList ++ b.data.toList := by simp [joined]
  have ea : a.data.toList.length = a.size := by simp
  have eb : b.data.toList.length = b.size := by simp
  have := sum_calls [a, b] (some ⟨blk, 0, none⟩) 2 blk 0 u (Lib.hid (by show 2 < _; decide)) (Lib.hid (by rw [hj, List.length_append, ea, eb]; omega)) (fun j hj => by
    have hj2 : j < 2 := by simpa using hj
    refine ⟨rfl, lt_of_block h, ?_⟩
    rw [cell_of_row u blk (0 + j) _ _ _ h]
    match j, hj2 with
    | 0, _ => rfl
    | 1, _ => rfl)
  rw [hj] at this
  exact this
theorem sum_row3 (a b c : ByteArray) (blk : Nat) (u : World) (h : u.heap[blk]? = some (.cells #[.string a, .string b, .string c] 9 (0, 0))) (ha : a.size < 268435456) (hb : b.size < 268435456) (hc : c.size < 268435456) :
    Calls Tryd.prog 34 #[.slice (some ⟨blk, 0, none⟩) 3 3] u fun e w' => e = .returned (.agg (bcells (Sm.sum (a.data.toList ++ b.data.toList ++ c.data.toList))).toArray) ∧ Kept u.heap.size u.heap.size u w' := by
  have hj : joined [a, b, c] [a, b, c].length = a.data.toList ++ b.data.toList ++ c.data.toList := by simp [joined]
  have ea : a.data.toList.length = a.size := by simp
  have eb : b.data.toList.length = b.size := by simp
  have ec : c.data.toList.length = c.size := by simp
  have := sum_calls [a, b, c] (some ⟨blk, 0, none⟩) 3 blk 0 u (Lib.hid (by show 3 < _; decide)) (Lib.hid (by rw [hj, List.length_append, List.length_append, ea, eb, ec]; omega)) (fun j hj => by
    have hj2 : j < 3 := by simpa using hj
    refine ⟨rfl, lt_of_block h, ?_⟩
    rw [cell_of_row u blk (0 + j) _ _ _ h]
    match j, hj2 with
    | 0, _ => rfl
    | 1, _ => rfl
    | 2, _ => rfl)
  rw [hj] at this
  exact this
theorem code_row2 (key a b : ByteArray) (blk : Nat) (u : World) (h : u.heap[blk]? = some (.cells #[.string a, .string b] 9 (0, 0))) (hk : key.size < 268435456) (ha : a.size < 268435456) (hb : b.size < 268435456) :
    Calls Tryd.prog 37 #[.string key, .slice (some ⟨blk, 0, none⟩) 2 2] u fun e w' => e = .returned (.agg (bcells (Mc.code key.data.toList (a.data.toList ++ b.data.toList))).toArray) ∧ Kept u.heap.size u.heap.size u w' := by
  have hj : joined [a, b] [a, b].length = a.data.toList ++ b.data.toList := by simp [joined]
  have ea : a.data.toList.length = a.size := by simp
  have eb : b.data.toList.length = b.size := by simp
  have := code_calls key (Lib.hid (by omega)) [a, b] (some ⟨blk, 0, none⟩) 2 blk 0 u (Lib.hid (by show 2 < _; decide)) (Lib.hid (by rw [hj, List.length_append, ea, eb]; omega)) (Lib.hid fun h => by cases h) (fun j hj => by
    have hj2 : j < 2 := by simpa using hj
    refine ⟨rfl, lt_of_block h, ?_⟩
    rw [cell_of_row u blk (0 + j) _ _ _ h]
    match j, hj2 with
    | 0, _ => rfl
    | 1, _ => rfl)
  rw [hj] at this
  exact this

set_option maxRecDepth 100000 in
set_option maxHeartbeats 1600000 in
theorem reftext_calls11 (k : List UInt8) (hk : Hid (k.length = 32)) (w : World) : Calls Tryd.prog 36 #[.agg (bcells k).toArray] w fun e w' => e = .returned (.string (str k)) ∧ Kept w.heap.size w.heap.size w w' := by
  obtain ⟨sk, hsk⟩ : ∃ sk, sk = str k := ⟨_, rfl⟩
  rw [← hsk]
  have Hsk := Lib.hid hsk
  generalize hkc : (bcells k).toArray = kc
  have Hkc := Lib.hid hkc
  clear hkc hsk
  go_enter Tryd.func36, Tryd.ntmps36
  go_upto_region 1 with fail
  have hP : (w.alloc (.cells kc 22)).heap[w.heap.size]? = some (.cells kc 22 (0, 0)) := heap_new _ _
  have k1 : Kept w.heap.size w.heap.size w (w.alloc (.cells kc 22)) := (Kept.refl _ _ _).alloc (Nat.le_refl _) _
  generalize w.alloc (.cells kc 22) = w1 at hP k1 ⊢
  obtain ⟨wa, hwa⟩ : ∃ wa, wa = w.heap.size := ⟨_, rfl⟩
  rw [← hwa] at hP ⊢
  have cA : (convert 72 9 (.slice (some ⟨wa, 0, none⟩) 32 32)).run Tryd.prog w1 = .ok (.string sk) w1 := by
    rw [Hsk.out]
    exact conv_hash hk.out (by rw [Hkc.out]; exact hP)
  clear hP hwa
  go_wp2
  go_ret
  exact ⟨rfl, k1⟩


set_option maxRecDepth 100000 in
set_option maxHeartbeats 6400000 in
theorem said_calls11 (k : List UInt8) (hk : k.length = 32) (core : ByteArray) (hc : core.size < 268435456) (w : World) : Calls Tryd.prog 14 #[.agg (bcells k).toArray, .string core] w fun e w' => e = .returned (.agg (bcells (Ky.said k core.data.toList)).toArray) ∧ Kept w.heap.size w.heap.size w w' := by
  have HSU := Lib.hid (fun (blk : Nat) (u : World) (h : u.heap[blk]? = some (.cells #[.string ⟨#[115, 97, 105, 100]⟩, .string (str k), .string core] 9 (0, 0))) => (show Calls Tryd.prog 34 #[.slice (some ⟨blk, 0, none⟩) 3 3] u fun e w' => e = .returned (.agg (bcells (Ky.said k core.data.toList)).toArray) ∧ Kept u.heap.size u.heap.size u w' from by
    have := sum_row3 ⟨#[115, 97, 105, 100]⟩ (str k) core blk u h (by decide) (by rw [str_size, hk]; decide) hc
    rw [show Sm.sum ((⟨#[115, 97, 105, 100]⟩ : ByteArray).data.toList ++ (str k).data.toList ++ core.data.toList) = Ky.said k core.data.toList from rfl] at this
    exact this))
  have HCV := Lib.hid (fun (b : Nat) (u : World) (h : u.heap[b]? = some (.cells (bcells k).toArray 23 (0, 0))) => conv_hash hk h)
  have HIU := Lib.hid (keyInfo11 (Ky.said_length k core.data.toList))
  have HZU := Lib.hid (keySize11 (Ky.said_length k core.data.toList))
  have HAU := Lib.hid (bcells_all (Ky.said k core.data.toList))
  generalize (bcells (Ky.said k core.data.toList)).toArray = cu at HSU HIU HZU HAU ⊢
  generalize (bcells k).toArray = kc at HCV ⊢
  generalize str k = sk at HSU HCV
  clear hk hc
  go_enter Tryd.func14, Tryd.ntmps14
  go_upto_region 0 with fail
  refine wp_region_lit ?_
  refine @BigFrame.wpList_want _ _ _ _ _ _ _ ?hw91001 ?_
  case hw91001 => kernel_rfl
  intro K hK
  go_simp
  refine hK _ _ ?_
  clear hK K
  have kn : Kept w.heap.size w.heap.size w (w.alloc (.cells kc 23)) := (Kept.refl _ _ _).alloc (Nat.le_refl _) _
  have rpb := heap_new w (.cells kc 23)
  have Kw1 := kn
  generalize w.alloc (.cells kc 23) = w1 at kn rpb Kw1  ⊢
  obtain ⟨pb, hpb⟩ : ∃ n, n = w.heap.size := ⟨_, rfl⟩
  rw [← hpb] at rpb
  (try rw [← hpb])
  clear hpb kn
  refine @wpL_alloc _ _ _ _ _ _ _ _ ?hw91002 23 rfl _ (alloc_hash11 _) ?_
  case hw91002 => kernel_rfl
  simp only [Act.put, List.setIfInBounds_toArray, List.set_cons_zero, List.set_cons_succ]
  have kn : Kept w1.heap.size w1.heap.size w1 (w1.alloc (.cells zeros32 23)) := (Kept.refl _ _ _).alloc (Nat.le_refl _) _
  have rrb := heap_new w1 (.cells zeros32 23)
  replace rpb := row_kept rpb kn
  have Kw2 := Kw1.onto kn
  have HRB : Hid (w.heap.size ≤ w1.heap.size) := Lib.hid (Kw1.size)
  generalize w1.alloc (.cells zeros32 23) = w2 at kn rrb Kw2 rpb ⊢
  obtain ⟨rb, hrb⟩ : ∃ n, n = w1.heap.size := ⟨_, rfl⟩
  rw [← hrb] at rrb HRB
  (try rw [← hrb])
  clear hrb kn Kw1
  have Rpb := Lib.hid rpb
  clear rpb
  have Rrb := Lib.hid rrb
  clear rrb
  have KW := Lib.hid Kw2
  clear Kw2
  go_upto_region 1 with fail
  have cA := HCV.out pb w2 Rpb.out
  refine wp_region_lit ?_
  refine @BigFrame.wpList_want _ _ _ _ _ _ _ ?hw91004 ?_
  case hw91004 => kernel_rfl
  intro K hK
  go_simp
  refine hK _ _ ?_
  clear hK K
  refine @BigFrame.wpList_want _ _ _ _ _ _ _ ?hw91005 ?_
  case hw91005 => kernel_rfl
  intro K hK
  go_simp
  refine hK _ _ ?_
  clear hK K
  refine @BigFrame.wpList_want _ _ _ _ _ _ _ ?hw91006 ?_
  case hw91006 => kernel_rfl
  intro K hK
  go_simp
  refine hK _ _ ?_
  clear hK K
  refine @BigFrame.wpList_want _ _ _ _ _ _ _ ?hw91007 ?_
  case hw91007 => kernel_rfl
  intro K hK
  go_simp
  refine hK _ _ ?_
  clear hK K
  refine @BigFrame.wpList_want _ _ _ _ _ _ _ ?hw91003 ?_
  case hw91003 => kernel_rfl
  intro K hK
  go_simp
  go_at_call 34
  refine (HSU.out _ _ (heap_new _ _)).mono ?_
  rintro e w8 ⟨rfl, k8⟩
  have kb : Kept w2.heap.size w2.heap.size w2 (w2.alloc (.cells #[.string ⟨#[115, 97, 105, 100]⟩, .string sk, .string core] 9)) := (Kept.refl _ _ _).alloc (Nat.le_refl _) _
  have K8 := Lib.hid ((KW.out.onto kb).onto k8)
  have R8 := Lib.hid (row_kept (row_kept Rrb.out kb) k8)
  clear kb k8
  refine hK _ _ ?_
  clear hK K
  refine wpList_store_row rfl 23 _ _ rfl (rb) cu rfl rfl 23 zeros32 (R8.out) HIU.out HZU.out HAU.out ?_
  simp only [Act.put]
  have R9 := setRow_heap w8 rb zeros32 cu _ _ (R8.out)
  have k9 : Kept w.heap.size w.heap.size w (w8.setRow rb cu) := kept_setRow10 (K8.out) rb HRB.out cu
  generalize w8.setRow rb cu = w9 at R9 k9 ⊢
  go_wp2
  refine bodyPost_ret (results_cell_row rfl _ _ rb 23 cu (0, 0) _ rfl R9 Tryd.underlying23 rfl HIU.out) rfl ?_
  exact ⟨rfl, k9⟩

set_option maxRecDepth 100000 in
set_option maxHeartbeats 6400000 in
theorem refsaid_calls11 (k : List UInt8) (hk : k.length = 32) (core : ByteArray) (hc : core.size ≤ 19000) (w : World) : Calls Tryd.prog 15 #[.agg (bcells k).toArray, .string core] w fun e w' => e = .returned (.agg (bcells (Ky.said k core.data.toList)).toArray) ∧ Kept w.heap.size w.heap.size w w' := by
  have HTX := Lib.hid (fun u => reftext_calls11 k (Lib.hid hk) u)
  have HLD := Lib.hid (fun (u : World) (b : Nat) (h : u.heap[b]? = some (.cells (bcells k).toArray 22 (0, 0))) => load_arr11 hk h)
  have hs1 : (⟨#[115, 97, 105, 100]⟩ ++ str k : ByteArray).size = 36 := by
    rw [ByteArray.size_append]
    show 4 + (str k).size = 36
    rw [str_size, hk]
  have HSU := Lib.hid (fun u => (show Calls Tryd.prog 35 #[.string (⟨#[115, 97, 105, 100]⟩ ++ str k ++ core)] u fun e w' => e = .returned (.agg (bcells (Ky.said k core.data.toList)).toArray) ∧ Kept u.heap.size u.heap.size u w' from by
    have := refsum_calls (⟨#[115, 97, 105, 100]⟩ ++ str k ++ core) u (by rw [ByteArray.size_append, hs1]; omega)
    rw [ByteArray.data_append, ByteArray.data_append, Array.toList_append, Array.toList_append, show Sm.sum ((⟨#[115, 97, 105, 100]⟩ : ByteArray).data.toList ++ (str k).data.toList ++ core.data.toList) = Ky.said k core.data.toList from rfl] at this
    exact this))
  have HIU := Lib.hid (keyInfo22 (Ky.said_length k core.data.toList))
  have HZU := Lib.hid (keySize11 (Ky.said_length k core.data.toList))
  have HAU := Lib.hid (bcells_all (Ky.said k core.data.toList))
  have hs2 : (str k).size = 32 := by rw [str_size, hk]
  generalize (bcells (Ky.said k core.data.toList)).toArray = cu at HSU HIU HZU HAU ⊢
  generalize (bcells k).toArray = kc at HTX HLD ⊢
  generalize str k = sk at HSU HTX hs1 hs2
  have zz1 : ¬ 9223372036854775807 < (⟨#[115, 97, 105, 100]⟩ : ByteArray).size + sk.size := by
    show ¬ 9223372036854775807 < 4 + _
    omega
  have zz1' : ¬ 9223372036854775807 < 4 + sk.size := zz1
  have zz2 : ¬ 9223372036854775807 < (⟨#[115, 97, 105, 100]⟩ ++ sk : ByteArray).size + core.size := by omega
  have zz3 : ¬ 9223372036854775807 < 4 + sk.size + core.size := by omega
  clear hk hs1 hs2
  go_enter Tryd.func15, Tryd.ntmps15
  go_upto_region 0 with fail
  refine wp_region_lit ?_
  refine @BigFrame.wpList_want _ _ _ _ _ _ _ ?hw91008 ?_
  case hw91008 => kernel_rfl
  intro K hK
  go_simp
  refine hK _ _ ?_
  clear hK K
  have kn : Kept w.heap.size w.heap.size w (w.alloc (.cells kc 22)) := (Kept.refl _ _ _).alloc (Nat.le_refl _) _
  have rpb := heap_new w (.cells kc 22)
  have Kw1 := kn
  generalize w.alloc (.cells kc 22) = w1 at kn rpb Kw1  ⊢
  obtain ⟨pb, hpb⟩ : ∃ n, n = w.heap.size := ⟨_, rfl⟩
  rw [← hpb] at rpb
  (try rw [← hpb])
  clear hpb kn
  refine @wpL_alloc _ _ _ _ _ _ _ _ ?hw91009 22 rfl _ (alloc_arr11 _) ?_
  case hw91009 => kernel_rfl
  simp only [Act.put, List.setIfInBounds_toArray, List.set_cons_zero, List.set_cons_succ]
  have kn : Kept w1.heap.size w1.heap.size w1 (w1.alloc (.cells zeros32 22)) := (Kept.refl _ _ _).alloc (Nat.le_refl _) _
  have rrb := heap_new w1 (.cells zeros32 22)
  replace rpb := row_kept rpb kn
  have Kw2 := Kw1.onto kn
  have HRB : Hid (w.heap.size ≤ w1.heap.size) := Lib.hid (Kw1.size)
  generalize w1.alloc (.cells zeros32 22) = w2 at kn rrb Kw2 rpb ⊢
  obtain ⟨rb, hrb⟩ : ∃ n, n = w1.heap.size := ⟨_, rfl⟩
  rw [← hrb] at rrb HRB
  (try rw [← hrb])
  clear hrb kn Kw1
  have Rpb := Lib.hid rpb
  clear rpb
  have Rrb := Lib.hid rrb
  clear rrb
  have KW := Lib.hid Kw2
  clear Kw2
  go_upto_region 1 with fail
  refine wp_region_lit ?_
  refine @wpList_load_known _ _ _ _ _ _ _ ?hw91012 22 (.tmp 2) rfl (pb) (0) rfl (.agg kc) (HLD.out _ _ Rpb.out) ?_
  case hw91012 => kernel_rfl
  simp only [Act.put, List.setIfInBounds_toArray, List.set_cons_zero, List.set_cons_succ]
  refine @BigFrame.wpList_want _ _ _ _ _ _ _ ?hw91010 ?_
  case hw91010 => kernel_rfl
  intro K hK
  go_simp
  go_at_call 36
  refine (HTX.out _).mono ?_
  rintro e w7 ⟨rfl, k7⟩
  have K7 := Lib.hid (KW.out.onto k7)
  have R7 := Lib.hid (row_kept Rrb.out k7)
  clear k7
  refine hK _ _ ?_
  clear hK K
  refine @BigFrame.wpList_want _ _ _ _ _ _ _ ?hw91013 ?_
  case hw91013 => kernel_rfl
  intro K hK
  go_simp
  refine hK _ _ ?_
  clear hK K
  refine @BigFrame.wpList_want _ _ _ _ _ _ _ ?hw91014 ?_
  case hw91014 => kernel_rfl
  intro K hK
  go_simp
  refine hK _ _ ?_
  clear hK K
  refine @BigFrame.wpList_want _ _ _ _ _ _ _ ?hw91015 ?_
  case hw91015 => kernel_rfl
  intro K hK
  go_simp
  refine hK _ _ ?_
  clear hK K
  refine @BigFrame.wpList_want _ _ _ _ _ _ _ ?hw91011 ?_
  case hw91011 => kernel_rfl
  intro K hK
  go_simp
  go_at_call 35
  refine (HSU.out _).mono ?_
  rintro e w8 ⟨rfl, k8⟩
  have K8 := Lib.hid (K7.out.onto k8)
  have R8 := Lib.hid (row_kept R7.out k8)
  clear k8
  refine hK _ _ ?_
  clear hK K
  refine wpList_store_row rfl 22 _ _ rfl (rb) cu rfl rfl 22 zeros32 (R8.out) HIU.out HZU.out HAU.out ?_
  simp only [Act.put]
  have R9 := setRow_heap w8 rb zeros32 cu _ _ (R8.out)
  have k9 : Kept w.heap.size w.heap.size w (w8.setRow rb cu) := kept_setRow10 (K8.out) rb HRB.out cu
  generalize w8.setRow rb cu = w9 at R9 k9 ⊢
  go_wp2
  refine bodyPost_ret (results_cell_row rfl _ _ rb 22 cu (0, 0) _ rfl R9 Tryd.underlying22 rfl HIU.out) rfl ?_
  exact ⟨rfl, k9⟩

end Go.Proofs.YtdfbmijbmlainaaDoor

namespace Go.Proofs.YtdfbmijbmlainaaDoor
open Go.RowKit Go.Lib

theorem join11 (x y : Nat) (hx : x < 36028797018963968) (hy : y < 256) : bits BinOp.or IntKind.i64 ((x : Int) * 256) (y : Int) = ((x * 256 + y : Nat) : Int) := by
  rw [bits_join .i64 63 (by decide) (fun n h₀ h₁ => by rw [IntKind.wrap_i64]; omega) 8 ((x : Int) * 256) y (by omega) (by omega) (by omega) (by omega) (by omega) (by omega)]
  omega
theorem acc11 (l : List UInt8) (i : Nat) (hi : i ≤ 4) : Wm.valOf 0 (l.take i) < 36028797018963968 := by
  have h1 := Wm.valOf_lt (l.take i)
  have h2 : (l.take i).length ≤ i := List.length_take_le _ _
  have h3 : 256 ^ (l.take i).length ≤ 256 ^ 4 := Nat.pow_le_pow_right (by omega) (by omega)
  have h5 : (256 : Nat) ^ 4 = 4294967296 := by decide
  omega
theorem step11 (l : List UInt8) (i : Nat) (hi : i < l.length) : Wm.valOf 0 (l.take (i + 1)) = Wm.valOf 0 (l.take i) * 256 + (l[i]).toNat := by
  rw [List.take_succ_eq_append_getElem hi, Wm.valOf_snoc]

set_option maxRecDepth 100000 in
set_option maxHeartbeats 6400000 in
theorem spot_calls11 (core : ByteArray) (hc : core.size < 268435456) (w : World) : Calls Tryd.prog 18 #[.string core] w fun e w' => e = .returned (.int .i64 (Ky.spot core.data.toList : Int)) ∧ Kept w.heap.size w.heap.size w w' := by
  have hl : (Sm.sum (Ky.wSpot ++ core.data.toList)).length = 32 := sum_length _
  have HSU := Lib.hid (fun (blk : Nat) (u : World) (h : u.heap[blk]? = some (.cells #[.string ⟨#[115, 112, 111, 116]⟩, .string core] 9 (0, 0))) => (show Calls Tryd.prog 34 #[.slice (some ⟨blk, 0, none⟩) 2 2] u fun e w' => e = .returned (.agg (bcells (Sm.sum (Ky.wSpot ++ core.data.toList))).toArray) ∧ Kept u.heap.size u.heap.size u w' from by
    have := sum_row2 ⟨#[115, 112, 111, 116]⟩ core blk u h (by decide) hc
    rw [show (⟨#[115, 112, 111, 116]⟩ : ByteArray).data.toList = Ky.wSpot from rfl] at this
    exact this))
  have HSP : Hid (Ky.spot core.data.toList = Wm.valOf 0 ((Sm.sum (Ky.wSpot ++ core.data.toList)).take 4)) := Lib.hid rfl
  generalize Ky.spot core.data.toList = sp at HSP ⊢
  generalize Sm.sum (Ky.wSpot ++ core.data.toList) = l at hl HSU HSP
  have HIU := Lib.hid (keyInfo11 hl)
  have HZU := Lib.hid (keySize11 hl)
  have HAU := Lib.hid (bcells_all l)
  have HCE := Lib.hid (fun (u : World) (b : Nat) (h : u.heap[b]? = some (.cells (bcells l).toArray 23 (0, 0))) (j : Nat) (hj : j < l.length) => cells_get h (bcells_get l j hj))
  have HL := Lib.hid hl
  generalize (bcells l).toArray = cu at HSU HIU HZU HAU HCE
  clear hc hl
  go_enter Tryd.func18, Tryd.ntmps18
  go_upto_region 1 with fail
  refine wp_region_lit ?_
  refine @BigFrame.wpList_want _ _ _ _ _ _ _ ?hw93002 ?_
  case hw93002 => kernel_rfl
  intro K hK
  go_simp
  refine hK _ _ ?_
  clear hK K
  refine @BigFrame.wpList_want _ _ _ _ _ _ _ ?hw93003 ?_
  case hw93003 => kernel_rfl
  intro K hK
  go_simp
  refine hK _ _ ?_
  clear hK K
  refine @BigFrame.wpList_want _ _ _ _ _ _ _ ?hw93001 ?_
  case hw93001 => kernel_rfl
  intro K hK
  go_simp
  go_at_call 34
  refine (HSU.out _ _ (heap_new _ _)).mono ?_
  rintro e w8 ⟨rfl, k8⟩
  have kb : Kept w.heap.size w.heap.size w (w.alloc (.cells #[.string ⟨#[115, 112, 111, 116]⟩, .string core] 9)) := (Kept.refl _ _ _).alloc (Nat.le_refl _) _
  have K8 := kb.onto k8
  clear kb k8
  refine hK _ _ ?_
  clear hK K
  refine @wpL_alloc _ _ _ _ _ _ _ _ ?hw93004 23 rfl _ (alloc_hash11 _) ?_
  case hw93004 => kernel_rfl
  simp only [Act.put, List.setIfInBounds_toArray, List.set_cons_zero, List.set_cons_succ]
  refine wpList_store_row rfl 23 _ _ rfl (w8.heap.size) cu rfl rfl 23 zeros32 (heap_new _ _) (HIU.out) (HZU.out) (HAU.out) ?_
  simp only [Act.put]
  rw [World.setRow_alloc_new]
  have R9 := heap_new w8 (.cells cu 23)
  have K9 : Kept w.heap.size w.heap.size w (w8.alloc (.cells cu 23)) := K8.alloc K8.size _
  generalize w8.alloc (.cells cu 23) = w9 at R9 K9 ⊢
  generalize w8.heap.size = db at R9 ⊢
  have HC := Lib.hid (HCE.out w9 db R9)
  have HK := Lib.hid K9
  clear K8 K9 R9
  go_wp2
  go_loop [4, 12] (fun n i => ∃ (j N : Nat), j ≤ 4 ∧ i = .int .i64 j ∧ n = .int .i64 N ∧ Hid (N = Wm.valOf 0 (l.take j))) (fun _ i => (4 - RowKit.intOf i).toNat)
  case atStart => exact ⟨0, 0, by omega, rfl, rfl, Lib.hid rfl⟩
  case round =>
    obtain ⟨i, N, hi, rfl, rfl, HN⟩ := hrel
    by_cases hlt : i < 4
    · have hit : i < l.length := by rw [HL.out]; omega
      have hc2 := HC.out i hit
      have hstep := step11 l i hit
      have hy : (l[i]).toNat < 256 := (l[i]).toNat_lt
      have hN3 := HN.out
      have hNlt : N < 36028797018963968 := by rw [hN3]; exact acc11 _ _ (by omega)
      rw [← hN3] at hstep
      clear hN3
      generalize (l[i]).toNat = y at hc2 hstep hy
      have hor := join11 N y hNlt hy
      have Hstep := Lib.hid hstep
      clear hstep
      go_wp2
      go_round
      case rel => exact ⟨i + 1, N * 256 + y, by omega, by go_num, rfl, Lib.hid Hstep.out.symm⟩
      case measure => simp [RowKit.intOf]; omega
    · obtain rfl : i = 4 := by omega
      go_wp2
      go_ret
      exact ⟨by rw [HSP.out, ← HN.out]; rfl, HK.out⟩

set_option maxRecDepth 100000 in
set_option maxHeartbeats 6400000 in
theorem refspot_calls11 (core : ByteArray) (hc : core.size ≤ 19000) (w : World) : Calls Tryd.prog 19 #[.string core] w fun e w' => e = .returned (.int .i64 (Ky.spot core.data.toList : Int)) ∧ Kept w.heap.size w.heap.size w w' := by
  have hl : (Sm.sum (Ky.wSpot ++ core.data.toList)).length = 32 := sum_length _
  have HSU := Lib.hid (fun u => (show Calls Tryd.prog 35 #[.string (⟨#[115, 112, 111, 116]⟩ ++ core)] u fun e w' => e = .returned (.agg (bcells (Sm.sum (Ky.wSpot ++ core.data.toList))).toArray) ∧ Kept u.heap.size u.heap.size u w' from by
    have := refsum_calls (⟨#[115, 112, 111, 116]⟩ ++ core) u (by rw [ByteArray.size_append]; show 4 + _ ≤ _; omega)
    rw [ByteArray.data_append, Array.toList_append, show (⟨#[115, 112, 111, 116]⟩ : ByteArray).data.toList = Ky.wSpot from rfl] at this
    exact this))
  have HSP : Hid (Ky.spot core.data.toList = Wm.valOf 0 ((Sm.sum (Ky.wSpot ++ core.data.toList)).take 4)) := Lib.hid rfl
  generalize Ky.spot core.data.toList = sp at HSP ⊢
  generalize Sm.sum (Ky.wSpot ++ core.data.toList) = l at hl HSU HSP
  obtain ⟨y0, y1, y2, y3, l4, rfl⟩ : ∃ y0 y1 y2 y3 l4, l = y0 :: y1 :: y2 :: y3 :: l4 := by
    match l, hl with
    | y0 :: y1 :: y2 :: y3 :: l4, _ => exact ⟨y0, y1, y2, y3, l4, rfl⟩
  have HV : Hid ((sp : Int) = (y0.toNat : Int) * 16777216 + (y1.toNat : Int) * 65536 + (y2.toNat : Int) * 256 + (y3.toNat : Int)) := Lib.hid (by
    rw [HSP.out]
    show (((((0 * 256 + y0.toNat) * 256 + y1.toNat) * 256 + y2.toNat) * 256 + y3.toNat : Nat) : Int) = _
    omega)
  have HIU := Lib.hid (keyInfo22 hl)
  have HZU := Lib.hid (keySize11 hl)
  have HAU := Lib.hid (bcells_all (y0 :: y1 :: y2 :: y3 :: l4))
  have HC0 := Lib.hid (fun (u : World) (b : Nat) (h : u.heap[b]? = some (.cells (bcells (y0 :: y1 :: y2 :: y3 :: l4)).toArray 22 (0, 0))) => cells_get h (j := 0) (v := .int .u8 (y0.toNat : Int)) rfl)
  have HC1 := Lib.hid (fun (u : World) (b : Nat) (h : u.heap[b]? = some (.cells (bcells (y0 :: y1 :: y2 :: y3 :: l4)).toArray 22 (0, 0))) => cells_get h (j := 1) (v := .int .u8 (y1.toNat : Int)) rfl)
  have HC2 := Lib.hid (fun (u : World) (b : Nat) (h : u.heap[b]? = some (.cells (bcells (y0 :: y1 :: y2 :: y3 :: l4)).toArray 22 (0, 0))) => cells_get h (j := 2) (v := .int .u8 (y2.toNat : Int)) rfl)
  have HC3 := Lib.hid (fun (u : World) (b : Nat) (h : u.heap[b]? = some (.cells (bcells (y0 :: y1 :: y2 :: y3 :: l4)).toArray 22 (0, 0))) => cells_get h (j := 3) (v := .int .u8 (y3.toNat : Int)) rfl)
  have b0 := y0.toNat_lt
  have b1 := y1.toNat_lt
  have b2 := y2.toNat_lt
  have b3 := y3.toNat_lt
  clear HSP hl
  generalize (bcells (y0 :: y1 :: y2 :: y3 :: l4)).toArray = cu at HSU HIU HZU HAU HC0 HC1 HC2 HC3
  generalize y0.toNat = n0 at HC0 HV b0
  generalize y1.toNat = n1 at HC1 HV b1
  generalize y2.toNat = n2 at HC2 HV b2
  generalize y3.toNat = n3 at HC3 HV b3
  have zz : ¬ 9223372036854775807 < 4 + core.size := by omega
  clear hc
  go_enter Tryd.func19, Tryd.ntmps19
  go_upto_region 1 with fail
  refine wp_region_lit ?_
  refine @BigFrame.wpList_want _ _ _ _ _ _ _ ?hw93006 ?_
  case hw93006 => kernel_rfl
  intro K hK
  go_simp
  refine hK _ _ ?_
  clear hK K
  refine @BigFrame.wpList_want _ _ _ _ _ _ _ ?hw93007 ?_
  case hw93007 => kernel_rfl
  intro K hK
  go_simp
  refine hK _ _ ?_
  clear hK K
  refine @BigFrame.wpList_want _ _ _ _ _ _ _ ?hw93005 ?_
  case hw93005 => kernel_rfl
  intro K hK
  go_simp
  go_at_call 35
  refine (HSU.out _).mono ?_
  rintro e w8 ⟨rfl, K8⟩
  refine hK _ _ ?_
  clear hK K
  refine @wpL_alloc _ _ _ _ _ _ _ _ ?hw93008 22 rfl _ (alloc_arr11 _) ?_
  case hw93008 => kernel_rfl
  simp only [Act.put, List.setIfInBounds_toArray, List.set_cons_zero, List.set_cons_succ]
  refine wpList_store_row rfl 22 _ _ rfl (w8.heap.size) cu rfl rfl 22 zeros32 (heap_new _ _) (HIU.out) (HZU.out) (HAU.out) ?_
  simp only [Act.put]
  rw [World.setRow_alloc_new]
  have R9 := heap_new w8 (.cells cu 22)
  have K9 : Kept w.heap.size w.heap.size w (w8.alloc (.cells cu 22)) := K8.alloc K8.size _
  generalize w8.alloc (.cells cu 22) = w9 at R9 K9 ⊢
  generalize w8.heap.size = db at R9 ⊢
  have c0 := HC0.out w9 db R9
  have c1 := HC1.out w9 db R9
  have c2 := HC2.out w9 db R9
  have c3 := HC3.out w9 db R9
  have HK := Lib.hid K9
  have p0 : IntKind.i64.wrap (n0 : Int) = (n0 : Int) := by rw [IntKind.wrap_i64]; omega
  have p1 : IntKind.i64.wrap (n1 : Int) = (n1 : Int) := by rw [IntKind.wrap_i64]; omega
  have p2 : IntKind.i64.wrap (n2 : Int) = (n2 : Int) := by rw [IntKind.wrap_i64]; omega
  have p3 : IntKind.i64.wrap (n3 : Int) = (n3 : Int) := by rw [IntKind.wrap_i64]; omega
  have q0 : IntKind.i64.wrap ((n0 : Int) * 16777216) = (n0 : Int) * 16777216 := by rw [IntKind.wrap_i64]; omega
  have q1 : IntKind.i64.wrap ((n1 : Int) * 65536) = (n1 : Int) * 65536 := by rw [IntKind.wrap_i64]; omega
  have q2 : IntKind.i64.wrap ((n2 : Int) * 256) = (n2 : Int) * 256 := by rw [IntKind.wrap_i64]; omega
  have q3 : IntKind.i64.wrap ((n0 : Int) * 16777216 + (n1 : Int) * 65536) = (n0 : Int) * 16777216 + (n1 : Int) * 65536 := by rw [IntKind.wrap_i64]; omega
  have q4 : IntKind.i64.wrap ((n0 : Int) * 16777216 + (n1 : Int) * 65536 + (n2 : Int) * 256) = (n0 : Int) * 16777216 + (n1 : Int) * 65536 + (n2 : Int) * 256 := by rw [IntKind.wrap_i64]; omega
  have q5 : IntKind.i64.wrap ((n0 : Int) * 16777216 + (n1 : Int) * 65536 + (n2 : Int) * 256 + (n3 : Int)) = (n0 : Int) * 16777216 + (n1 : Int) * 65536 + (n2 : Int) * 256 + (n3 : Int) := by rw [IntKind.wrap_i64]; omega
  clear K8 K9 R9
  go_upto_region 2 with fail
  refine wp_region_lit ?_
  refine @BigFrame.wpList_want _ _ _ _ _ _ _ ?hw93009 ?_
  case hw93009 => kernel_rfl
  intro K hK
  go_simp
  refine hK _ _ ?_
  clear hK K
  refine @BigFrame.wpList_want _ _ _ _ _ _ _ ?hw93010 ?_
  case hw93010 => kernel_rfl
  intro K hK
  go_simp
  refine hK _ _ ?_
  clear hK K
  refine @BigFrame.wpList_want _ _ _ _ _ _ _ ?hw93011 ?_
  case hw93011 => kernel_rfl
  intro K hK
  go_simp
  refine hK _ _ ?_
  clear hK K
  refine @BigFrame.wpList_want _ _ _ _ _ _ _ ?hw93012 ?_
  case hw93012 => kernel_rfl
  intro K hK
  go_simp
  refine hK _ _ ?_
  clear hK K
  refine @BigFrame.wpList_want _ _ _ _ _ _ _ ?hw93013 ?_
  case hw93013 => kernel_rfl
  intro K hK
  go_simp
  refine hK _ _ ?_
  clear hK K
  refine @BigFrame.wpList_want _ _ _ _ _ _ _ ?hw93014 ?_
  case hw93014 => kernel_rfl
  intro K hK
  go_simp
  refine hK _ _ ?_
  clear hK K
  refine @BigFrame.wpList_want _ _ _ _ _ _ _ ?hw93015 ?_
  case hw93015 => kernel_rfl
  intro K hK
  go_simp
  refine hK _ _ ?_
  clear hK K
  refine @BigFrame.wpList_want _ _ _ _ _ _ _ ?hw93016 ?_
  case hw93016 => kernel_rfl
  intro K hK
  go_simp
  refine hK _ _ ?_
  clear hK K
  refine @BigFrame.wpList_want _ _ _ _ _ _ _ ?hw93017 ?_
  case hw93017 => kernel_rfl
  intro K hK
  go_simp
  refine hK _ _ ?_
  clear hK K
  refine @BigFrame.wpList_want _ _ _ _ _ _ _ ?hw93018 ?_
  case hw93018 => kernel_rfl
  intro K hK
  go_simp
  refine hK _ _ ?_
  clear hK K
  refine @BigFrame.wpList_want _ _ _ _ _ _ _ ?hw93019 ?_
  case hw93019 => kernel_rfl
  intro K hK
  go_simp
  refine hK _ _ ?_
  clear hK K
  refine @BigFrame.wpList_want _ _ _ _ _ _ _ ?hw93020 ?_
  case hw93020 => kernel_rfl
  intro K hK
  go_simp
  refine hK _ _ ?_
  clear hK K
  refine @BigFrame.wpList_want _ _ _ _ _ _ _ ?hw93021 ?_
  case hw93021 => kernel_rfl
  intro K hK
  go_simp
  refine hK _ _ ?_
  clear hK K
  refine @BigFrame.wpList_want _ _ _ _ _ _ _ ?hw93022 ?_
  case hw93022 => kernel_rfl
  intro K hK
  go_simp
  refine hK _ _ ?_
  clear hK K
  refine @BigFrame.wpList_want _ _ _ _ _ _ _ ?hw93023 ?_
  case hw93023 => kernel_rfl
  intro K hK
  go_simp
  refine hK _ _ ?_
  clear hK K
  refine @BigFrame.wpList_want _ _ _ _ _ _ _ ?hw93024 ?_
  case hw93024 => kernel_rfl
  intro K hK
  go_simp
  refine hK _ _ ?_
  clear hK K
  refine @BigFrame.wpList_want _ _ _ _ _ _ _ ?hw93025 ?_
  case hw93025 => kernel_rfl
  intro K hK
  go_simp
  refine hK _ _ ?_
  clear hK K
  refine @BigFrame.wpList_want _ _ _ _ _ _ _ ?hw93026 ?_
  case hw93026 => kernel_rfl
  intro K hK
  go_simp
  refine hK _ _ ?_
  clear hK K
  refine @BigFrame.wpList_want _ _ _ _ _ _ _ ?hw93027 ?_
  case hw93027 => kernel_rfl
  intro K hK
  go_simp
  refine hK _ _ ?_
  clear hK K
  go_wp2
  go_ret
  exact ⟨by rw [HV.out]; rfl, HK.out⟩

end Go.Proofs.YtdfbmijbmlainaaDoor

namespace Go.Proofs.YtdfbmijbmlainaaDoor
open Go.RowKit Go.Lib

set_option maxRecDepth 100000 in
set_option maxHeartbeats 6400000 in
theorem tag_calls11 (k s : List UInt8) (hk : k.length = 32) (hs : s.length = 32) (w : World) : Calls Tryd.prog 16 #[.agg (bcells k).toArray, .agg (bcells s).toArray] w fun e w' => e = .returned (.agg (bcells (Ky.tag k s)).toArray) ∧ Kept w.heap.size w.heap.size w w' := by
  have HCO := Lib.hid (fun (blk : Nat) (u : World) (h : u.heap[blk]? = some (.cells #[.string ⟨#[116, 97, 103]⟩, .string (str s)] 9 (0, 0))) => (show Calls Tryd.prog 37 #[.string (str k), .slice (some ⟨blk, 0, none⟩) 2 2] u fun e w' => e = .returned (.agg (bcells (Ky.tag k s)).toArray) ∧ Kept u.heap.size u.heap.size u w' from by
    have := code_row2 (str k) ⟨#[116, 97, 103]⟩ (str s) blk u h (by rw [str_size, hk]; decide) (by decide) (by rw [str_size, hs]; decide)
    rw [show Mc.code (str k).data.toList ((⟨#[116, 97, 103]⟩ : ByteArray).data.toList ++ (str s).data.toList) = Ky.tag k s from rfl] at this
    exact this))
  have HCK := Lib.hid (fun (b : Nat) (u : World) (h : u.heap[b]? = some (.cells (bcells k).toArray 23 (0, 0))) => conv_hash hk h)
  have HCS := Lib.hid (fun (b : Nat) (u : World) (h : u.heap[b]? = some (.cells (bcells s).toArray 23 (0, 0))) => conv_hash hs h)
  have HIU := Lib.hid (keyInfo11 (Ky.tag_length k s))
  have HZU := Lib.hid (keySize11 (Ky.tag_length k s))
  have HAU := Lib.hid (bcells_all (Ky.tag k s))
  generalize (bcells (Ky.tag k s)).toArray = cu at HCO HIU HZU HAU ⊢
  generalize (bcells k).toArray = kc at HCK ⊢
  generalize (bcells s).toArray = sc at HCS ⊢
  generalize str k = sk at HCO HCK
  generalize str s = ss at HCO HCS
  clear hk hs
  go_enter Tryd.func16, Tryd.ntmps16
  go_upto_region 0 with fail
  refine wp_region_lit ?_
  refine @BigFrame.wpList_want _ _ _ _ _ _ _ ?hw92001 ?_
  case hw92001 => kernel_rfl
  intro K hK
  go_simp
  refine hK _ _ ?_
  clear hK K
  have kn : Kept w.heap.size w.heap.size w (w.alloc (.cells kc 23)) := (Kept.refl _ _ _).alloc (Nat.le_refl _) _
  have rpb := heap_new w (.cells kc 23)
  have Kw1 := kn
  generalize w.alloc (.cells kc 23) = w1 at kn rpb Kw1  ⊢
  obtain ⟨pb, hpb⟩ : ∃ n, n = w.heap.size := ⟨_, rfl⟩
  rw [← hpb] at rpb
  (try rw [← hpb])
  clear hpb kn
  refine @BigFrame.wpList_want _ _ _ _ _ _ _ ?hw92002 ?_
  case hw92002 => kernel_rfl
  intro K hK
  go_simp
  refine hK _ _ ?_
  clear hK K
  have kn : Kept w1.heap.size w1.heap.size w1 (w1.alloc (.cells sc 23)) := (Kept.refl _ _ _).alloc (Nat.le_refl _) _
  have rtb := heap_new w1 (.cells sc 23)
  replace rpb := row_kept rpb kn
  have Kw2 := Kw1.onto kn
  generalize w1.alloc (.cells sc 23) = w2 at kn rtb Kw2 rpb ⊢
  obtain ⟨tb, htb⟩ : ∃ n, n = w1.heap.size := ⟨_, rfl⟩
  rw [← htb] at rtb
  (try rw [← htb])
  clear htb kn Kw1
  refine @wpL_alloc _ _ _ _ _ _ _ _ ?hw92003 23 rfl _ (alloc_hash11 _) ?_
  case hw92003 => kernel_rfl
  simp only [Act.put, List.setIfInBounds_toArray, List.set_cons_zero, List.set_cons_succ]
  have kn : Kept w2.heap.size w2.heap.size w2 (w2.alloc (.cells zeros32 23)) := (Kept.refl _ _ _).alloc (Nat.le_refl _) _
  have rrb := heap_new w2 (.cells zeros32 23)
  replace rpb := row_kept rpb kn
  replace rtb := row_kept rtb kn
  have Kw3 := Kw2.onto kn
  have HRB : Hid (w.heap.size ≤ w2.heap.size) := Lib.hid (Kw2.size)
  generalize w2.alloc (.cells zeros32 23) = w3 at kn rrb Kw3 rpb rtb ⊢
  obtain ⟨rb, hrb⟩ : ∃ n, n = w2.heap.size := ⟨_, rfl⟩
  rw [← hrb] at rrb HRB
  (try rw [← hrb])
  clear hrb kn Kw2
  have Rpb := Lib.hid rpb
  clear rpb
  have Rtb := Lib.hid rtb
  clear rtb
  have Rrb := Lib.hid rrb
  clear rrb
  have KW := Lib.hid Kw3
  clear Kw3
  go_upto_region 1 with fail
  have HCA := Lib.hid (fun (x : World) (k : Kept w3.heap.size w3.heap.size w3 x) => HCK.out pb x (row_kept Rpb.out k))
  have HCB := Lib.hid (fun (x : World) (k : Kept w3.heap.size w3.heap.size w3 x) => HCS.out tb x (row_kept Rtb.out k))
  obtain ⟨wd, hwd⟩ : ∃ wd, wd = w3.drew := ⟨_, rfl⟩
  have KD : Kept w3.heap.size w3.heap.size w3 wd := by rw [hwd]; exact (Kept.refl _ _ _).drew
  refine wp_region_noPanic ?_
  refine wp_region_heldTo 6 (S := fun w' => Kept w3.heap.size w3.heap.size w3 w') (by kernel_rfl) ((by rw [← hwd]; exact KD)) (fun hH => ?_)
  rw [← hwd] at hH ⊢
  clear hwd
  refine heldTo_take_ex (i := 0) 5 rfl rfl (by kernel_rfl) (by kernel_rfl) (by kernel_rfl) (by kernel_rfl) (fun _ _ _ _ h => h) (by kernel_rfl) hH ?_
  apply Exists.intro
  apply And.intro
  · intro w9 h9
    go_simp
    first | done | rfl
  simp only [List.setIfInBounds_toArray, List.set_cons_zero, List.set_cons_succ]
  refine heldTo_take_ex (i := 1) 6 rfl rfl (by kernel_rfl) (by kernel_rfl) (by kernel_rfl) (by kernel_rfl) (fun _ _ _ _ h => h) (by kernel_rfl) hH ?_
  apply Exists.intro
  apply And.intro
  · intro w9 h9
    have cA := HCA.out w9 h9
    go_simp
    first | done | rfl
  simp only [List.setIfInBounds_toArray, List.set_cons_zero, List.set_cons_succ]
  refine heldTo_take_ex (i := 2) 7 rfl rfl (by kernel_rfl) (by kernel_rfl) (by kernel_rfl) (by kernel_rfl) (fun _ _ _ _ h => h) (by kernel_rfl) hH ?_
  apply Exists.intro
  apply And.intro
  · intro w9 h9
    go_simp
    first | done | rfl
  simp only [List.setIfInBounds_toArray, List.set_cons_zero, List.set_cons_succ]
  refine heldTo_take_ex (i := 3) 8 rfl rfl (by kernel_rfl) (by kernel_rfl) (by kernel_rfl) (by kernel_rfl) (fun _ _ _ _ h => h) (by kernel_rfl) hH ?_
  apply Exists.intro
  apply And.intro
  · intro w9 h9
    have cB := HCB.out w9 h9
    go_simp
    first | done | rfl
  simp only [List.setIfInBounds_toArray, List.set_cons_zero, List.set_cons_succ]
  refine heldTo_one (i := 4) (by kernel_rfl) rfl (fun K hK => ?_)
  rw [if_pos (by rfl)]
  go_simp
  have KS : Kept w3.heap.size w3.heap.size w3 (wd.alloc (.cells #[.string ⟨#[116, 97, 103]⟩, .string ss] 9)) := KD.alloc KD.size _
  have r4 := heap_new wd (.cells #[.string ⟨#[116, 97, 103]⟩, .string ss] 9)
  have K4 := KS
  generalize wd.alloc (.cells #[.string ⟨#[116, 97, 103]⟩, .string ss] 9) = w4 at KS r4 K4 ⊢
  generalize wd.heap.size = b4 at r4 ⊢
  refine hK.out _ _ KS (fun hH => ?_)
  clear hK K KS
  refine heldTo_one (i := 5) (by kernel_rfl) rfl (fun K hK => ?_)
  rw [if_pos (by rfl)]
  go_simp
  go_wp2_with (go_at_call 37; refine (HCO.out _ _ r4).mono ?_; rintro e w8 ⟨rfl, k8⟩)
  have KS : Kept w3.heap.size w3.heap.size w3 w8 := K4.onto k8
  have K8 := KS
  have R9 := row_kept Rrb.out K8
  refine hK.out _ _ KS (fun hH => ?_)
  clear hK K KS
  refine heldTo_last (by kernel_rfl) rfl (fun K hK => ?_)
  rw [if_pos (by rfl)]
  refine wp_store_row_none11 23 _ _ rfl rfl rb cu rfl rfl 23 zeros32 R9 HIU.out HZU.out HAU.out ?_
  refine hK.out _ _ ?_
  clear hK K
  refine heldTo_done (by kernel_rfl) ?_ _
  refine NoPanic.normal ?_
  clear hH
  have R10 := setRow_heap w8 rb zeros32 cu _ _ R9
  have k10 : Kept w.heap.size w.heap.size w (w8.setRow rb cu) := kept_setRow10 (KW.out.onto K8) rb HRB.out cu
  generalize w8.setRow rb cu = w10 at R10 k10 ⊢
  go_wp2
  refine bodyPost_ret (results_cell_row rfl _ _ rb 23 cu (0, 0) _ rfl R10 Tryd.underlying23 rfl HIU.out) rfl ?_
  exact ⟨rfl, k10⟩

set_option maxRecDepth 100000 in
set_option maxHeartbeats 6400000 in
theorem reftag_calls11 (k s : List UInt8) (hk : k.length = 32) (hs : s.length = 32) (w : World) : Calls Tryd.prog 17 #[.agg (bcells k).toArray, .agg (bcells s).toArray] w fun e w' => e = .returned (.agg (bcells (Ky.tag k s)).toArray) ∧ Kept w.heap.size w.heap.size w w' := by
  have hz : (⟨#[116, 97, 103]⟩ ++ str s : ByteArray).size = 35 := by
    rw [ByteArray.size_append]
    show 3 + (str s).size = 35
    rw [str_size, hs]
  have HCO := Lib.hid (fun u => (show Calls Tryd.prog 38 #[.string (str k), .string (⟨#[116, 97, 103]⟩ ++ str s)] u fun e w' => e = .returned (.agg (bcells (Ky.tag k s)).toArray) ∧ Kept u.heap.size u.heap.size u w' from by
    have := refcode_calls (str k) (⟨#[116, 97, 103]⟩ ++ str s) (Lib.hid (by rw [str_size, hk]; decide)) (Lib.hid (by rw [hz]; decide)) u
    rw [ByteArray.data_append, Array.toList_append, show Mc.code (str k).data.toList ((⟨#[116, 97, 103]⟩ : ByteArray).data.toList ++ (str s).data.toList) = Ky.tag k s from rfl] at this
    exact this))
  have HTK := Lib.hid (fun u => reftext_calls11 k (Lib.hid hk) u)
  have HTS := Lib.hid (fun u => reftext_calls11 s (Lib.hid hs) u)
  have HLK := Lib.hid (fun (u : World) (b : Nat) (h : u.heap[b]? = some (.cells (bcells k).toArray 22 (0, 0))) => load_arr11 hk h)
  have HLS := Lib.hid (fun (u : World) (b : Nat) (h : u.heap[b]? = some (.cells (bcells s).toArray 22 (0, 0))) => load_arr11 hs h)
  have HIU := Lib.hid (keyInfo22 (Ky.tag_length k s))
  have HZU := Lib.hid (keySize11 (Ky.tag_length k s))
  have HAU := Lib.hid (bcells_all (Ky.tag k s))
  have hs2 : (str s).size = 32 := by rw [str_size, hs]
  generalize (bcells (Ky.tag k s)).toArray = cu at HCO HIU HZU HAU ⊢
  generalize (bcells k).toArray = kc at HTK HLK ⊢
  generalize (bcells s).toArray = sc at HTS HLS ⊢
  generalize str k = sk at HCO HTK
  generalize str s = ss at HCO HTS hs2 hz
  have zz : ¬ 9223372036854775807 < 3 + ss.size := by omega
  clear hk hs hs2 hz
  go_enter Tryd.func17, Tryd.ntmps17
  go_upto_region 0 with fail
  refine wp_region_lit ?_
  refine @BigFrame.wpList_want _ _ _ _ _ _ _ ?hw92004 ?_
  case hw92004 => kernel_rfl
  intro K hK
  go_simp
  refine hK _ _ ?_
  clear hK K
  have kn : Kept w.heap.size w.heap.size w (w.alloc (.cells kc 22)) := (Kept.refl _ _ _).alloc (Nat.le_refl _) _
  have rpb := heap_new w (.cells kc 22)
  have Kw1 := kn
  generalize w.alloc (.cells kc 22) = w1 at kn rpb Kw1  ⊢
  obtain ⟨pb, hpb⟩ : ∃ n, n = w.heap.size := ⟨_, rfl⟩
  rw [← hpb] at rpb
  (try rw [← hpb])
  clear hpb kn
  refine @BigFrame.wpList_want _ _ _ _ _ _ _ ?hw92005 ?_
  case hw92005 => kernel_rfl
  intro K hK
  go_simp
  refine hK _ _ ?_
  clear hK K
  have kn : Kept w1.heap.size w1.heap.size w1 (w1.alloc (.cells sc 22)) := (Kept.refl _ _ _).alloc (Nat.le_refl _) _
  have rtb := heap_new w1 (.cells sc 22)
  replace rpb := row_kept rpb kn
  have Kw2 := Kw1.onto kn
  generalize w1.alloc (.cells sc 22) = w2 at kn rtb Kw2 rpb ⊢
  obtain ⟨tb, htb⟩ : ∃ n, n = w1.heap.size := ⟨_, rfl⟩
  rw [← htb] at rtb
  (try rw [← htb])
  clear htb kn Kw1
  refine @wpL_alloc _ _ _ _ _ _ _ _ ?hw92006 22 rfl _ (alloc_arr11 _) ?_
  case hw92006 => kernel_rfl
  simp only [Act.put, List.setIfInBounds_toArray, List.set_cons_zero, List.set_cons_succ]
  have kn : Kept w2.heap.size w2.heap.size w2 (w2.alloc (.cells zeros32 22)) := (Kept.refl _ _ _).alloc (Nat.le_refl _) _
  have rrb := heap_new w2 (.cells zeros32 22)
  replace rpb := row_kept rpb kn
  replace rtb := row_kept rtb kn
  have Kw3 := Kw2.onto kn
  have HRB : Hid (w.heap.size ≤ w2.heap.size) := Lib.hid (Kw2.size)
  generalize w2.alloc (.cells zeros32 22) = w3 at kn rrb Kw3 rpb rtb ⊢
  obtain ⟨rb, hrb⟩ : ∃ n, n = w2.heap.size := ⟨_, rfl⟩
  rw [← hrb] at rrb HRB
  (try rw [← hrb])
  clear hrb kn Kw2
  have Rpb := Lib.hid rpb
  clear rpb
  have Rtb := Lib.hid rtb
  clear rtb
  have Rrb := Lib.hid rrb
  clear rrb
  have KW := Lib.hid Kw3
  clear Kw3
  go_upto_region 1 with fail
  have HLA := Lib.hid (fun (x : World) (k : Kept w3.heap.size w3.heap.size w3 x) => HLK.out x pb (row_kept Rpb.out k))
  have HLB := Lib.hid (fun (x : World) (k : Kept w3.heap.size w3.heap.size w3 x) => HLS.out x tb (row_kept Rtb.out k))
  obtain ⟨wd, hwd⟩ : ∃ wd, wd = w3.drew := ⟨_, rfl⟩
  have KD : Kept w3.heap.size w3.heap.size w3 wd := by rw [hwd]; exact (Kept.refl _ _ _).drew
  refine wp_region_noPanic ?_
  refine wp_region_heldTo 6 (S := fun w' => Kept w3.heap.size w3.heap.size w3 w') (by kernel_rfl) ((by rw [← hwd]; exact KD)) (fun hH => ?_)
  rw [← hwd] at hH ⊢
  clear hwd
  refine heldTo_take (i := 0) 5 (.agg kc) rfl rfl (by kernel_rfl) (by kernel_rfl) (by kernel_rfl) (by kernel_rfl) (fun _ _ _ h => h) (yieldsIf_load_known (by kernel_rfl) 22 _ rfl (pb) (0) rfl (.agg kc) (HLA.out)) hH ?_
  simp only [List.setIfInBounds_toArray, List.set_cons_zero, List.set_cons_succ]
  refine heldTo_take (i := 2) 7 (.agg sc) rfl rfl (by kernel_rfl) (by kernel_rfl) (by kernel_rfl) (by kernel_rfl) (fun _ _ _ h => h) (yieldsIf_load_known (by kernel_rfl) 22 _ rfl (tb) (0) rfl (.agg sc) (HLB.out)) hH ?_
  simp only [List.setIfInBounds_toArray, List.set_cons_zero, List.set_cons_succ]
  refine heldTo_one (i := 1) (by kernel_rfl) rfl (fun K hK => ?_)
  rw [if_pos (by rfl)]
  go_simp
  go_wp2_with (go_at_call 36; refine (HTK.out _).mono ?_; rintro e w5 ⟨rfl, k5⟩)
  have KS : Kept w3.heap.size w3.heap.size w3 w5 := KD.onto k5
  have K5 := KS
  refine hK.out _ _ KS (fun hH => ?_)
  clear hK K KS
  refine heldTo_one (i := 3) (by kernel_rfl) rfl (fun K hK => ?_)
  rw [if_pos (by rfl)]
  go_simp
  go_wp2_with (go_at_call 36; refine (HTS.out _).mono ?_; rintro e w6 ⟨rfl, k6⟩)
  have KS : Kept w3.heap.size w3.heap.size w3 w6 := K5.onto k6
  have K6 := KS
  refine hK.out _ _ KS (fun hH => ?_)
  clear hK K KS
  refine heldTo_take_ex (i := 4) 9 rfl rfl (by kernel_rfl) (by kernel_rfl) (by kernel_rfl) (by kernel_rfl) (fun _ _ _ _ h => h) (by kernel_rfl) hH ?_
  apply Exists.intro
  apply And.intro
  · intro w9 h9
    go_simp
    first | done | rfl
  simp only [List.setIfInBounds_toArray, List.set_cons_zero, List.set_cons_succ]
  refine heldTo_one (i := 5) (by kernel_rfl) rfl (fun K hK => ?_)
  rw [if_pos (by rfl)]
  go_simp
  go_wp2_with (go_at_call 38; refine (HCO.out _).mono ?_; rintro e w8 ⟨rfl, k8⟩)
  have KS : Kept w3.heap.size w3.heap.size w3 w8 := K6.onto k8
  have K8 := KS
  have R9 := row_kept Rrb.out K8
  refine hK.out _ _ KS (fun hH => ?_)
  clear hK K KS
  refine heldTo_last (by kernel_rfl) rfl (fun K hK => ?_)
  rw [if_pos (by rfl)]
  refine wp_store_row_none11 22 _ _ rfl rfl rb cu rfl rfl 22 zeros32 R9 HIU.out HZU.out HAU.out ?_
  refine hK.out _ _ ?_
  clear hK K
  refine heldTo_done (by kernel_rfl) ?_ _
  refine NoPanic.normal ?_
  clear hH
  have R10 := setRow_heap w8 rb zeros32 cu _ _ R9
  have k10 : Kept w.heap.size w.heap.size w (w8.setRow rb cu) := kept_setRow10 (KW.out.onto K8) rb HRB.out cu
  generalize w8.setRow rb cu = w10 at R10 k10 ⊢
  go_wp2
  refine bodyPost_ret (results_cell_row rfl _ _ rb 22 cu (0, 0) _ rfl R10 Tryd.underlying22 rfl HIU.out) rfl ?_
  exact ⟨rfl, k10⟩

end Go.Proofs.YtdfbmijbmlainaaDoor
