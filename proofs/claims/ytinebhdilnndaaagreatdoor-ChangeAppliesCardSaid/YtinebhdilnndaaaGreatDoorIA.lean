/-
 ChgMath; ChgMem; ChgOpen: several texts in one.
-/
import Derived.Test.YtinebhdilnndaaaGreatDoorGA
import Derived.Test.YtinebhdilnndaaaGreatDoorGV
import Derived.Test.YtinebhdilnndaaaGreatDoorKA
import Derived.Test.YtinebhdilnndaaaGreatDoorHeldEx
import Derived.Deep.MidRow
import Derived.Lib.Hide
import Derived.Deep.RegionWith
import Derived.Deep.Cut
import Derived.Deep.DeepCutAuto
import Derived.StillTailTactics
import Derived.Lib.SmallJoins
import Derived.Deep.Strs
set_option maxRecDepth 100000
namespace Go.Proofs.YtinebhdilnndaaaGreatDoor
open Go.RowKit
structure Cg where
 epoch:List UInt8
 depth:Int
 author:Int
 seq:Int
 kind:Int
 name:Int
 pub:List UInt8
 sign:List UInt8
namespace Cm
def z32:List UInt8:=List.replicate 32 0
def zero:Cg:=⟨z32,0,0,0,0,0,z32,z32⟩
def isNm (n:Int):Bool:=decide (1<=n) && decide (n<=64)
def nums (d s:Int):Bool:=decide (0<=d) && decide (d<=4611686018427387903) && (decide (1<=s) && decide (s<=4611686018427387903))
def kinds (p:Cg):Bool:=if p.kind = 2 then p.name == p.author else if p.kind = 1\/p.kind = 3 then p.pub == z32 else false
def right (p:Cg):Bool:=nums p.depth p.seq && (isNm p.author && isNm p.name) && kinds p
def text (p:Cg):List UInt8:=p.epoch ++ (Wm.enc p.depth.toNat ++ (Wm.enc p.author.toNat ++ (Wm.enc p.seq.toNat ++ (Wm.enc p.kind.toNat ++ (Wm.enc p.name.toNat ++ p.pub)))))
def packed (p:Cg):List UInt8:=text p ++ p.sign
def rank (k:Int):Nat:=if k = 2 then 1 else if k = 3 then 2 else if k = 1 then 3 else 4
def less (p q:Cg):Bool:=if rank p.kind = rank q.kind then decide (p.name < q.name) else decide (rank p.kind < rank q.kind)
theorem less_trans (p q s:Cg)(h:less p q = true)(g:less q s = true):less p s = true:=by
 unfold less at h g |-
 by_cases e:rank p.kind = rank q.kind <;> by_cases f:rank q.kind = rank s.kind
 ·rw [if_pos e] at h; rw [if_pos f] at g; rw [if_pos (e.trans f)]
  have:=of_decide_eq_true h; have:=of_decide_eq_true g;exact decide_eq_true (by omega)
 ·rw [if_pos e] at h; rw [if_neg f] at g; rw [if_neg (λx=>f (e.symm.trans x))]
  have:=of_decide_eq_true g;exact decide_eq_true (by omega)
 ·rw [if_neg e] at h; rw [if_pos f] at g; rw [if_neg (λx=>e (x.trans f.symm))]
  have:=of_decide_eq_true h;exact decide_eq_true (by omega)
 ·rw [if_neg e] at h; rw [if_neg f] at g
  have h1:=of_decide_eq_true h; have h2:=of_decide_eq_true g;rw [if_neg (by omega)]
  exact decide_eq_true (by omega)
theorem isNm_iff {n:Int}:isNm n = true↔1<=n/\n<=64:=by simp [isNm]
theorem right_iff {p:Cg}:right p = true↔(0<=p.depth/\p.depth<=4611686018427387903/\1<=p.seq/\p.seq<=4611686018427387903)/\((1<=p.author/\p.author<=64)/\1<=p.name/\p.name<=64)/\kinds p = true:=by
 simp only [right,nums,isNm,Bool.and_eq_true,decide_eq_true_eq]
 constructor
 ·rintro ⟨⟨⟨⟨a,b⟩,c,d⟩,e,f⟩,g⟩
  exact⟨⟨a,b,c,d⟩,⟨e,f⟩,g⟩
 ·rintro ⟨⟨a,b,c,d⟩,⟨e,f⟩,g⟩
  exact⟨⟨⟨⟨a,b⟩,c,d⟩,e,f⟩,g⟩
theorem kind_le {p:Cg}(h:kinds p = true):1<=p.kind/\p.kind<=3:=by
 unfold kinds at h
 split at h
 ·omega
 ·split at h
  ·omega
  ·cases h
end Cm
end Go.Proofs.YtinebhdilnndaaaGreatDoor
namespace Go.Proofs.YtinebhdilnndaaaGreatDoor
open Go.RowKit Go.Lib
open List renaming setIfInBounds_toArray -> sA, set_cons_zero -> sB, set_cons_succ -> sC
open BigFrame renaming wpList_want -> wQ
def Cg.Ok (p:Cg):Prop:=p.epoch.length = 32/\p.pub.length = 32/\p.sign.length = 32
def Cg.chg (p:Cg):List Value:=.int .i64 p.kind :: .int .i64 p.name :: bcells p.pub
def Cg.mid (p:Cg):List Value:=[.int .i64 p.depth,.int .i64 p.author,.int .i64 p.seq]
def Cg.cells (p:Cg):List Value:=bcells p.epoch ++ (p.mid ++ (p.chg ++ bcells p.sign))
theorem Cm.zero_ok:Cm.zero.Ok:=⟨rfl,rfl,rfl⟩
theorem Cg.chg_length {p:Cg}(h:p.Ok):p.chg.length = 34:=by simp [Cg.chg,bcells_length,h.2.1]
theorem Cg.cells_length {p:Cg}(h:p.Ok):p.cells.length = 101:=by
 simp [Cg.cells,Cg.mid,bcells_length,h.1,h.2.2,Cg.chg_length h]
theorem Cg.size {p:Cg}(h:p.Ok):p.cells.toArray.size = 101:=by rw [List.size_toArray,Cg.cells_length h]
theorem Cg.csize {p:Cg}(h:p.Ok):p.chg.toArray.size = 34:=by rw [List.size_toArray,Cg.chg_length h]
theorem Cg.chg_one (p:Cg):∀ v∈p.chg,v.oneCell' = true:=λv hv=>by
 rcases List.mem_cons.1 hv with rfl | hv
 ·rfl
 ·rcases List.mem_cons.1 hv with rfl | hv
  ·rfl
  ·exact bcells_one _ v hv
theorem Cg.all (p:Cg):p.cells.toArray.all (·.oneCell') = true:=by
 refine all_oneCell_toArray λv hv=>?_
 rcases List.mem_append.1 hv with hv | hv
 ·exact bcells_one _ v hv
 ·rcases List.mem_append.1 hv with hv | hv
  ·rcases List.mem_cons.1 hv with rfl | hv
   ·rfl
   ·rcases List.mem_cons.1 hv with rfl | hv
    ·rfl
    ·rw [List.mem_singleton.1 hv]; rfl
  ·rcases List.mem_append.1 hv with hv | hv
   ·exact p.chg_one v hv
   ·exact bcells_one _ v hv
theorem Cg.call (p:Cg):p.chg.toArray.all (·.oneCell') = true:=all_oneCell_toArray p.chg_one
theorem hashInfo10 {l:List UInt8}(h:l.length = 32):(Tryz.prog.info? 30).map (·.size) = some (bcells l).length:=by rw [bcells_length,h]; kernel_rfl
theorem cgInfo {cs:Array Value}(h:cs.size = 101):(Tryz.prog.info? 46).map (·.size) = some cs.size:=by rw [h]; kernel_rfl
theorem chgInfo {cs:Array Value}(h:cs.size = 34):(Tryz.prog.info? 44).map (·.size) = some cs.size:=by rw [h]; kernel_rfl
theorem alloc_cg (w:World):(Instr.alloc 46 true (.tuple #[])).run Tryz.prog w = .ok (.pointer (some ⟨w.heap.size,0,none⟩)) (w.alloc (.cells Cm.zero.cells.toArray 46)):=by kernel_rfl
theorem alloc_chg (w:World):(Instr.alloc 44 true (.tuple #[])).run Tryz.prog w = .ok (.pointer (some ⟨w.heap.size,0,none⟩)) (w.alloc (.cells Cm.zero.chg.toArray 44)):=by kernel_rfl
theorem build_cg0 (w:World):(Instr.build 46 #[]).run Tryz.prog w = .ok (.agg Cm.zero.cells.toArray) w:=by kernel_rfl
theorem build_hash0 (w:World):(Instr.build 30 #[]).run Tryz.prog w = .ok (.agg (bcells Cm.z32).toArray) w:=by kernel_rfl
theorem row_part10 {w:World}{b:Nat}{cs:List Value}{t:TypeId}{fz:Nat × Nat}(h:w.heap[b]? = some (.cells cs.toArray t fz))(A B C:List Value)(hcs:cs = A ++ (B ++ C))(o:Nat)(ho:o = A.length):w.rangeAt b o B:=λj v hj=>by
 rw [cell_of_row w b (o + j) _ _ _ h,hcs,ho]
 have h2:j < B.length:=by
  rcases Nat.lt_or_ge j B.length with h | h
  ·exact h
  ·rw [List.getElem?_eq_none h] at hj; cases hj
 rw [List.getElem?_toArray,List.getElem?_append_right (Nat.le_add_right _ _),Nat.add_sub_cancel_left,List.getElem?_append_left h2];exact hj
section
variable {w:World} {b:Nat} {p:Cg} {t:TypeId} {fz:Nat × Nat}
theorem cg_epoch (h:w.heap[b]? = some (.cells p.cells.toArray t fz)):w.rangeAt b 0 (bcells p.epoch):=row_part10 h [] _ _ rfl 0 rfl
theorem cg_mid (h:w.heap[b]? = some (.cells p.cells.toArray t fz))(ok:p.Ok):w.rangeAt b 32 p.mid:=row_part10 h (bcells p.epoch) _ _ rfl 32 (by rw [bcells_length,ok.1])
theorem cg_chg (h:w.heap[b]? = some (.cells p.cells.toArray t fz))(ok:p.Ok):w.rangeAt b 35 p.chg:=row_part10 h (bcells p.epoch ++ p.mid) _ (bcells p.sign) (by rw [Cg.cells,List.append_assoc]) 35 (by rw [List.length_append,bcells_length,ok.1]; rfl)
theorem cg_sign (h:w.heap[b]? = some (.cells p.cells.toArray t fz))(ok:p.Ok):w.rangeAt b 69 (bcells p.sign):=row_part10 h (bcells p.epoch ++ (p.mid ++ p.chg)) _ [] (by rw [Cg.cells,List.append_assoc,List.append_assoc,List.append_nil]) 69 (by rw [List.length_append,List.length_append,bcells_length,ok.1,Cg.chg_length ok]; rfl)
theorem cg_depth (h:w.heap[b]? = some (.cells p.cells.toArray t fz))(ok:p.Ok):w.cell? ⟨b,32,none⟩ = some (.int .i64 p.depth):=cg_mid h ok 0 _ rfl
theorem cg_author (h:w.heap[b]? = some (.cells p.cells.toArray t fz))(ok:p.Ok):w.cell? ⟨b,33,none⟩ = some (.int .i64 p.author):=cg_mid h ok 1 _ rfl
theorem cg_seq (h:w.heap[b]? = some (.cells p.cells.toArray t fz))(ok:p.Ok):w.cell? ⟨b,34,none⟩ = some (.int .i64 p.seq):=cg_mid h ok 2 _ rfl
theorem chg_kind {o:Nat}(h:w.rangeAt b o p.chg):w.cell? ⟨b,o,none⟩ = some (.int .i64 p.kind):=h 0 _ rfl
theorem chg_name {o:Nat}(h:w.rangeAt b o p.chg):w.cell? ⟨b,o + 1,none⟩ = some (.int .i64 p.name):=h 1 _ rfl
theorem chg_pub {o:Nat}(h:w.rangeAt b o p.chg):w.rangeAt b (o + 2) (bcells p.pub):=λj v hj=>by
 have:=h (j + 2) v (by rw [Cg.chg]; exact hj)
 rwa [show o + (j + 2) = o + 2 + j by omega] at this
theorem row_range0 {cs:List Value}(h:w.heap[b]? = some (.cells cs.toArray t fz)):w.rangeAt b 0 cs:=row_part10 h [] cs [] (by simp) 0 rfl
end
theorem load_hash {w:World}{b o:Nat}{l:List UInt8}(h:w.rangeAt b o (bcells l))(hl:l.length = 32):(loadVar 30 ⟨b,o,none⟩).run Tryz.prog w = .ok (.agg (bcells l).toArray) w:=
 run_loadVar_mid w b o 30 _ _ h Tryz.underlying30 rfl (hashInfo10 hl)
theorem load_chg {w:World}{b o:Nat}{p:Cg}(h:w.rangeAt b o p.chg)(ok:p.Ok):(loadVar 44 ⟨b,o,none⟩).run Tryz.prog w = .ok (.agg p.chg.toArray) w:=
 run_loadVar_mid w b o 44 _ _ h Tryz.underlying44 rfl (by have:=chgInfo (Cg.csize ok); simpa using this)
theorem load_cg {w:World}{b:Nat}{p:Cg}(h:w.heap[b]? = some (.cells p.cells.toArray 46 (0,0)))(ok:p.Ok):(loadVar 46 ⟨b,0,none⟩).run Tryz.prog w = .ok (.agg p.cells.toArray) w:=
 run_loadVar_row w b 46 46 _ (0,0) _ h Tryz.underlying46 rfl (cgInfo (Cg.size ok))
theorem load_int10 {w:World}{g o:Nat}{n:Int}(h:w.cell? ⟨g,o,none⟩ = some (.int .i64 n)):(loadVar 3 ⟨g,o,none⟩).run Tryz.prog w = .ok (.int .i64 n) w:=by
 go_simp
end Go.Proofs.YtinebhdilnndaaaGreatDoor
namespace Go.Proofs.YtinebhdilnndaaaGreatDoor
open Go.ChangeShapes Go.WideShapes Go.ChangeAt Go.RowKit Go.Deep Go.Lib Go.Joins
theorem cgCells10:Tryz.prog.cellsOf 46 = 101:=by kernel_rfl
theorem chgCells10:Tryz.prog.cellsOf 44 = 34:=by kernel_rfl
theorem intCells10:Tryz.prog.cellsOf 3 = 1:=by kernel_rfl
section
variable {H:Type} {P:Program} {enc:TypeId × Value->H} {w:World} {base:Nat} {spare:Nat->Bool} {held:Bool}
theorem trod_struct6 {t:TypeId}{f0 f1 f2 f3 f4 f5:Field}{fuel:Nat}{cs:List Value}{x:DataW H × List MemPlace}(ht:P.underlying t = some (.struct #[f0,f1,f2,f3,f4,f5]))(h:DataW.trod enc P w base spare held fuel t cs = some x):
  ∃ y0 y1 y2 y3 y4 y5 n,cs.length = P.cellsOf t/\DataW.trod enc P w base spare held n f0.type ((cs.drop f0.offset).take (P.cellsOf f0.type)) = some y0 /\
   DataW.trod enc P w base spare held n f1.type ((cs.drop f1.offset).take (P.cellsOf f1.type)) = some y1/\DataW.trod enc P w base spare held n f2.type ((cs.drop f2.offset).take (P.cellsOf f2.type)) = some y2 /\
   DataW.trod enc P w base spare held n f3.type ((cs.drop f3.offset).take (P.cellsOf f3.type)) = some y3/\DataW.trod enc P w base spare held n f4.type ((cs.drop f4.offset).take (P.cellsOf f4.type)) = some y4 /\
   DataW.trod enc P w base spare held n f5.type ((cs.drop f5.offset).take (P.cellsOf f5.type)) = some y5:=by
 obtain⟨xs,n,_,rfl,hl,hlen,hf⟩:=DataW.trod_struct ht h
 match xs,hlen with
 | [y0,y1,y2,y3,y4,y5],_=>exact⟨y0,y1,y2,y3,y4,y5,n,hl,by simpa using hf 0 f0 rfl,by simpa using hf 1 f1 rfl,by simpa using hf 2 f2 rfl,by simpa using hf 3 f3 rfl,by simpa using hf 4 f4 rfl,by simpa using hf 5 f5 rfl⟩
end
theorem cut_next (es:List Value)(a n b:Nat)(h:b = a + n):es.drop a = (es.drop a).take n ++ es.drop b:=by
 rw [h,<- List.drop_drop,List.take_append_drop]
end Go.Proofs.YtinebhdilnndaaaGreatDoor
