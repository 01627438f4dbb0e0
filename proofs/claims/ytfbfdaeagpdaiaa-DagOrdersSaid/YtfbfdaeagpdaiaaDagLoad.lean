/-
 A vertex in a block of its own: what is read of it.
-/
import Derived.Test.YtfbfdaeagpdaiaaDagCmp
namespace Go.Proofs.Ytfbfdaeagpdaiaa
open Go.RowKit Go.Lib
open List renaming setIfInBounds_toArray → sA, set_cons_zero → sB, set_cons_succ → sC
open BigFrame renaming wpList_want → wQ
section
variable {w:World} {g:Nat} {v:Vx} {t:TypeId}
def Vb (w:World)(g:Nat)(v:Vx):Prop:=w.heap[g]? = some (.cells v.cells.toArray 36 (0,0))
theorem vx_id (o:List Value):∀ (j:Nat) (u:Value),(bcells v.id)[j]? = some u→(bcells v.id ++ o)[j]? = some u:=fun j u hu=>by
 rw [List.getElem?_append_left (List.getElem?_eq_some_iff.1 hu).1];exact hu
theorem Vb.rid (h:Vb w g v):w.rangeAt g 0 (bcells v.id):=fun j u hu=>by
 rw [Nat.zero_add];exact cells_get h (vx_id _ j u hu)
theorem Vb.rpar (h:Vb w g v)(hv:v.Ok):w.rangeAt g 32 (bcells v.par):=fun j u hu=>by
 refine cells_get h ?_;rw [Vx.cells,List.getElem?_append_right (by rw [bcells_length,hv.1]; omega),bcells_length,hv.1,Nat.add_sub_cancel_left,List.getElem?_append_left (List.getElem?_eq_some_iff.1 hu).1]
 exact hu
theorem vx_tail (hv:v.Ok)(j:Nat):v.cells[64 + j]? = ([Value.int .i64 v.dep,.int .i64 v.dat]:List Value)[j]?:=by
 rw [Vx.cells,List.getElem?_append_right (by rw [bcells_length,hv.1]; omega),bcells_length,hv.1,List.getElem?_append_right (by rw [bcells_length,hv.2]; omega),bcells_length,hv.2]
 congr 1
 omega
theorem Vb.dep (h:Vb w g v)(hv:v.Ok):w.cell? ⟨g,64,none⟩ = some (.int .i64 v.dep):=cells_get h (vx_tail hv 0)
theorem Vb.dat (h:Vb w g v)(hv:v.Ok):w.cell? ⟨g,65,none⟩ = some (.int .i64 v.dat):=cells_get h (vx_tail hv 1)
theorem load_int15 {o:Nat}{x:Int}(h:w.cell? ⟨g,o,none⟩ = some (.int .i64 x)):(loadVar 3 ⟨g,o,none⟩).run Try.prog w = .ok (.int .i64 x) w:=by
 go_simp
theorem hashInfo15:(Try.prog.info? 30).map (·.size) = some 32:=by kernel_rfl
theorem vxInfo15:(Try.prog.info? 36).map (·.size) = some 66:=by kernel_rfl
theorem load_hash15 {o:Nat}{l:List UInt8}(hl:l.length = 32)(h:w.rangeAt g o (bcells l)):(loadVar 30 ⟨g,o,none⟩).run Try.prog w = .ok (.agg (bcells l).toArray) w:=
 run_loadVar_mid w g o 30 _ _ h Try.underlying30 rfl (by rw [hashInfo15,bcells_length,hl])
theorem load_map15 {o:Nat}{x:Option Nat}(h:w.cell? ⟨g,o,none⟩ = some (.map x)):(loadVar 46 ⟨g,o,none⟩).run Try.prog w = .ok (.map x) w:=by
 go_simp
theorem load_behind15 {o:Nat}{x:Option Nat}(h:w.cell? ⟨g,o,none⟩ = some (.map x)):(loadVar 47 ⟨g,o,none⟩).run Try.prog w = .ok (.map x) w:=by
 go_simp
theorem Vb.lid (h:Vb w g v)(hv:v.Ok):(loadVar 30 ⟨g,0,none⟩).run Try.prog w = .ok (.agg (bcells v.id).toArray) w:=load_hash15 hv.1 h.rid
theorem Vb.lpar (h:Vb w g v)(hv:v.Ok):(loadVar 30 ⟨g,32,none⟩).run Try.prog w = .ok (.agg (bcells v.par).toArray) w:=load_hash15 hv.2 (h.rpar hv)
theorem Vb.ldep (h:Vb w g v)(hv:v.Ok):(loadVar 3 ⟨g,64,none⟩).run Try.prog w = .ok (.int .i64 v.dep) w:=load_int15 (h.dep hv)
theorem Vb.all (h:Vb w g v)(hv:v.Ok):(loadVar 36 ⟨g,0,none⟩).run Try.prog w = .ok v.val w:=
 run_loadVar_row w g 36 36 _ (0,0) _ h Try.underlying36 rfl (by rw [vxInfo15,List.size_toArray,Vx.cells_length hv])
theorem Vb.new (w:World)(v:Vx):Vb (w.alloc (.cells v.cells.toArray 36)) w.heap.size v:=heap_new w _
theorem Vb.kept {w':World}(h:Vb w g v)(k:Kept w.heap.size w.heap.size w w'):Vb w' g v:=row_kept h k
theorem Vb.lt (h:Vb w g v):g < w.heap.size:=lt_of_block h
end
theorem vxSize15 {v:Vx}(hv:v.Ok):(Try.prog.info? 36).map (·.size) = some v.cells.toArray.size:=by rw [vxInfo15,List.size_toArray,Vx.cells_length hv]
end Go.Proofs.Ytfbfdaeagpdaiaa
