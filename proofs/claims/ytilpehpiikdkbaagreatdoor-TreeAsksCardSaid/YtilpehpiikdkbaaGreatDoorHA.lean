/-
 A parent put behind a tree of one's own; operations known in a region that draws its order.
-/
import Derived.Test.YtilpehpiikdkbaaGreatDoorTreeRemove

namespace Go.Proofs.YtilpehpiikdkbaaGreatDoor
open Go.RowKit Go.Lib

section
variable {B B' : Nat → Prop} {w w1 : World} {lv pv : Value} {L : List Lf} {P : List Pr} {SL : List Value}
theorem Frm.cell (h : Frm B w w1) {p : Addr} (hp : p.block < w.heap.size) (hb : B p.block) : w1.cell? p = w.cell? p := World.cell?_of_block (w := w) (h.block p.block hp hb)
theorem Frm.range (h : Frm B w w1) {g o : Nat} {cs : List Value} (hr : w.rangeAt g o cs) (hg : g < w.heap.size) (hb : B g) : w1.rangeAt g o cs := fun j v hv => (h.cell (p := ⟨g, o + j, none⟩) hg hb).trans (hr j v hv)
end
theorem append_intR (w : World) (base : Nat) (v : Value) (L : List Int) (x : Int) (h : Ints w base v L) (b c : Nat) (hb : w.cell? ⟨b, 0, none⟩ = some (.int .i64 x)) (hn : L.length < 100000) (hbase : base ≤ w.heap.size) :
  ∃ v' w', (Builtin.append_ #[35, 35] 35 #[v, .slice (some ⟨b, 0, none⟩) 1 c]).run Tryz.prog w = .ok v' w' ∧ Ints w' base v' (L ++ [x]) ∧ w.grownBy w' v.ownBlock := by
 obtain ⟨i0, hi, hz0, hz1, hz2⟩ := info_parts intInfo
 obtain ⟨v', w', e1, e2, e3, _⟩ := run_append_own_at (P := Tryz.prog) (w := w) base 35 35 3 i0 (.int .i64 0) 1 8 Tryz.underlying35 hi hz0 hz1 hz2 rfl (by decide) v L.length (L.map (Value.int .i64)) h ⟨b, 0, none⟩ 1 c [.int .i64 x]
  rfl (fun j u hu => by
   rw [Addr.add_lit]
   match j, hu with
   | 0, hu => cases hu; exact hb) (fun u hu => by rw [List.mem_singleton.1 hu]; rfl) (by unfold maxLen; omega) (by omega) hbase
 refine ⟨v', w', e1, ?_, e3⟩
 unfold Ints
 rw [List.length_append, List.map_append]
 exact e2
theorem load_ints {w : World} {g o : Nat} {a : Option Addr} {n c : Nat} (h : w.cell? ⟨g, o, none⟩ = some (.slice a n c)) : (loadVar 35 ⟨g, o, none⟩).run Tryz.prog w = .ok (.slice a n c) w := by
 go_simp
section
variable {P : Program} {ops : Array Oper} {rest : List Oper} {o : Oper} {a : Act} {w w' : World} {K : Act → World → Prop} {Q : Exit → Act → World → Prop}
theorem wp_append_dst (s x : Operand) (t t' ty : TypeId) (hty : o.type = ty) (ho : o.op = .call { callee := .builtin .append, args := #[s, x], argTypes := #[t, t'] }) (d : Option Tmp) (hd : o.dst = d) (v y v' : Value) (hs : a.eval s = v) (hx : a.eval x = y) (hr : (Builtin.append_ #[t, t'] ty #[v, y]).run P w = .ok v' w') (hk : K (a.put d v') w') : o.wp P a w K Q := by
 subst hty
 subst hd
 unfold Oper.wp execOp
 simp only [ho, resolve, invoke, builtin, Sem.run_bind, Sem.run_pure, Result.andThen_ok, List.map_toArray, List.map_cons, List.map_nil, hs, hx, hr]
 exact hk
end

end Go.Proofs.YtilpehpiikdkbaaGreatDoor
