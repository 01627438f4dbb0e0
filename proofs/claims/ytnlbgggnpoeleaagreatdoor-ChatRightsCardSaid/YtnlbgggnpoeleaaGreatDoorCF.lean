/-
 The four tables, out of what a row of era or chat lists; a world for a row's witness.
-/
import Derived.Test.YtnlbgggnpoeleaaGreatDoorWireLaid
import Derived.Test.YtnlbgggnpoeleaaGreatDoorCA
namespace Go.Proofs.YtnlbgggnpoeleaaGreatDoor
open Go.ChangeShapes Go.WideShapes Go.ChangeAt Go.RowKit
theorem laidMet_tail14 {P:Program}{W:World}{x:String × DataW Unit}{rest:List (String × DataW Unit)}(h:laidMet P (x :: rest) W):laidMet P rest W:=by
 obtain⟨name,d⟩:=x;obtain⟨ps,⟨g,t,cs,fuel,p,q,h1,h2,h3,h4,hq,rfl⟩,hn,hc⟩:=h;exact⟨q,hq,(List.nodup_append.1 hn).2.1,λb off hm=>hc b off (List.mem_append_right _ hm)⟩
theorem gTensType:(Tryz.prog.globals[1]?).map (·.type) = some 218:=by kernel_rfl
theorem tensCells:Tryz.prog.cellsOf 218 = 20:=by kernel_rfl
theorem tensOne:Tryz.prog.cellsOf 161 = 1:=by kernel_rfl
theorem chatTable {W : World} (h : laidMetH Tryz.prog [("bevy/wire.bounds", Rows.laid_bevy_wire_bounds), ("math/bits.deBruijn32tab", Rows.laid_math_bits_deBruijn32tab), ("math/bits.deBruijn64tab", Rows.laid_math_bits_deBruijn64tab), ("internal/strconv.uint64pow10", Rows.laid_internal_strconv_uint64pow10)] W) : Tab2 W := by
 have h0 : laidMet Tryz.prog [("bevy/wire.bounds", Rows.laid_bevy_wire_bounds), ("math/bits.deBruijn32tab", Rows.laid_math_bits_deBruijn32tab), ("math/bits.deBruijn64tab", Rows.laid_math_bits_deBruijn64tab), ("internal/strconv.uint64pow10", Rows.laid_internal_strconv_uint64pow10)] W := h;have t := Lib.tabIs_of_head (k := .i64) (zs := [63, 16383, 1073741823, 4611686018427387903]) gTab gTabType Tryz.underlying112 Tryz.underlying3 wireCellsInt wireCellsTab h0
 have h3:=laidMet_tail14 (laidMet_tail14 (laidMet_tail14 h0));have p:=Lib.tabIs_of_head (k:=.u64) (zs:=[1,10,100,1000,10000,100000,1000000,10000000,100000000,1000000000,10000000000,100000000000,1000000000000,10000000000000,100000000000000,1000000000000000,10000000000000000,100000000000000000,1000000000000000000,10000000000000000000]) gTens gTensType Tryz.underlying218 Tryz.underlying161 tensOne tensCells h3
 have c1:=p.cell gTens 0 (by decide)
 refine⟨⟨t.cell gTab 0 (by decide),t.cell gTab 1 (by decide),t.cell gTab 2 (by decide),t.cell gTab 3 (by decide)⟩,?_,?_⟩
 ·rw [show Lib.pow10Tab = [1,10,100,1000,10000,100000,1000000,10000000,100000000,1000000000,10000000000,100000000000,1000000000000,10000000000000,100000000000000,1000000000000000,10000000000000000,100000000000000000,1000000000000000000,10000000000000000000] from by decide]
  exact p
 ·rcases Nat.lt_or_ge 1 W.heap.size with h | h
  ·exact h
  ·exfalso
   simp [World.cell?,Array.getElem?_eq_none h] at c1
noncomputable def laidWorld4 (os:Os):World:=
 { World.holding Tryz.prog os ⟨#[],#[],[]⟩ with heap:=(((((World.holding Tryz.prog os ⟨#[],#[],[]⟩).heap.modify 0 fun
   | .cells _ t frozen=>.cells #[.int .i64 63,.int .i64 16383,.int .i64 1073741823,.int .i64 4611686018427387903] t frozen
   | o=>o).modify 2 fun
   | .cells _ t frozen=>.cells #[.int .u8 0,.int .u8 1,.int .u8 28,.int .u8 2,.int .u8 29,.int .u8 14,.int .u8 24,.int .u8 3,.int .u8 30,.int .u8 22,.int .u8 20,.int .u8 15,.int .u8 25,.int .u8 17,.int .u8 4,.int .u8 8,.int .u8 31,.int .u8 27,.int .u8 13,.int .u8 23,.int .u8 21,.int .u8 19,.int .u8 16,.int .u8 7,.int .u8 26,.int .u8 12,.int .u8 18,.int .u8 6,.int .u8 11,.int .u8 5,.int .u8 10,.int .u8 9] t frozen
   | o=>o).modify 3 fun
   | .cells _ t frozen=>.cells #[.int .u8 0,.int .u8 1,.int .u8 56,.int .u8 2,.int .u8 57,.int .u8 49,.int .u8 28,.int .u8 3,.int .u8 61,.int .u8 58,.int .u8 42,.int .u8 50,.int .u8 38,.int .u8 29,.int .u8 17,.int .u8 4,.int .u8 62,.int .u8 47,.int .u8 59,.int .u8 36,.int .u8 45,.int .u8 43,.int .u8 51,.int .u8 22,.int .u8 53,.int .u8 39,.int .u8 33,.int .u8 30,.int .u8 24,.int .u8 18,.int .u8 12,.int .u8 5,.int .u8 63,.int .u8 55,.int .u8 48,.int .u8 27,.int .u8 60,.int .u8 41,.int .u8 37,.int .u8 16,.int .u8 46,.int .u8 35,.int .u8 44,.int .u8 21,.int .u8 52,.int .u8 32,.int .u8 23,.int .u8 11,.int .u8 54,.int .u8 26,.int .u8 40,.int .u8 15,.int .u8 34,.int .u8 20,.int .u8 31,.int .u8 10,.int .u8 25,.int .u8 14,.int .u8 19,.int .u8 9,.int .u8 13,.int .u8 8,.int .u8 7,.int .u8 6] t frozen
   | o=>o).modify 1 fun
   | .cells _ t frozen=>.cells #[.int .u64 1,.int .u64 10,.int .u64 100,.int .u64 1000,.int .u64 10000,.int .u64 100000,.int .u64 1000000,.int .u64 10000000,.int .u64 100000000,.int .u64 1000000000,.int .u64 10000000000,.int .u64 100000000000,.int .u64 1000000000000,.int .u64 10000000000000,.int .u64 100000000000000,.int .u64 1000000000000000,.int .u64 10000000000000000,.int .u64 100000000000000000,.int .u64 1000000000000000000,.int .u64 10000000000000000000] t frozen
   | o=>o) }
end Go.Proofs.YtnlbgggnpoeleaaGreatDoor
