/-
 TreePlaceSame; ApMath; ApMem; ApBuild; ApLeaf; ApCard; ApCopyMem; ApCopied; ApGrp: several texts in one.
-/
import Derived.Test.YtinebhdilnndaaaGreatDoorHO
import Derived.Test.YtinebhdilnndaaaGreatDoorGY
import Derived.Test.YtinebhdilnndaaaGreatDoorIA
import Derived.Test.YtinebhdilnndaaaGreatDoorHA
import Derived.Test.YtinebhdilnndaaaGreatDoorHL
import Derived.Test.YtinebhdilnndaaaGreatDoorKA
import Derived.Test.YtinebhdilnndaaaGreatDoorIB
import Derived.Test.YtinebhdilnndaaaGreatDoorHD
import Derived.Test.YtinebhdilnndaaaGreatDoorTreeAddJoin
set_option maxRecDepth 100000
set_option maxHeartbeats 6400000
namespace Go.Proofs.YtinebhdilnndaaaGreatDoor
open Go.RowKit Go.Lib
open List renaming setIfInBounds_toArray -> sA, set_cons_zero -> sB, set_cons_succ -> sC
open BigFrame renaming wpList_want -> wQ
theorem Tt.place_same10 {L:List Lf}{P:List Pr}(h:Tt.right L P = true)(y:Int):Tt.place L P y = Tt.rplace L y:=by
 have hnm:=(Tt.leavesOk_iff L []).1 ((Tt.right_iff L P).1 h).2.2.2.1;unfold Tt.place Tt.rplace;rw [h,Bool.and_true]
 by_cases h1:1<=y
 ·by_cases h3:y<=64
  ·rw [decide_eq_true h1,decide_eq_true h3,Bool.and_self,if_pos rfl,if_pos (by omega)]
  ·rw [decide_eq_false h3,Bool.and_false,if_neg (by decide),if_pos (by omega)]
   exact(Tt.index_none λj hj e=>by
    rcases hnm j hj with h5 | ⟨_,h5,_⟩
    ·rw [h5] at e
     have:Lf.zero.name = 0:=rfl
     omega
    ·omega).symm
 ·rw [decide_eq_false h1,Bool.false_and,if_neg (by decide),if_neg (by omega)]
end Go.Proofs.YtinebhdilnndaaaGreatDoor
namespace Go.Proofs.YtinebhdilnndaaaGreatDoor
open Go.RowKit
structure Pn where
 ver:List UInt8
 cards:List (List UInt8 × List UInt8)
instance:Inhabited Pn:=⟨⟨[],[]⟩⟩
structure Gp where
 L:List Lf
 P:List Pr
 ts:List Int
 fr:List Int
namespace Ap
def z64:List Int:=List.replicate 64 0
def none:Gp:=⟨[],[],z64,[]⟩
def count (ts:List Int)(n:Int):Int:=ts.getD (n.toNat - 1) 0
def person (R:List Pn)(n:Int):Pn:=R.getD (n.toNat - 1) default
def known (R:List Pn)(n:Int):Bool:=Cm.isNm n && decide (n<=(R.length:Int))
def left (R:List Pn)(ts:List Int)(n:Int):Bool:=decide (0<=count ts n) && decide (count ts n < ((person R n).cards.length:Int))
def cardErr (R:List Pn)(ts:List Int)(n:Int):Int:=if known R n = true then (if left R ts n = true then 0 else 10) else 7
def card (R:List Pn)(ts:List Int)(n:Int):List UInt8 × List UInt8:=(person R n).cards.getD (count ts n).toNat ([],[])
def leaf (R:List Pn)(ts:List Int)(n:Int):Lf:=⟨n,(card R ts n).2,(person R n).ver,Tt.z32⟩
def cardOf (R:List Pn)(ts:List Int)(n:Int):List UInt8 × List UInt8:=if cardErr R ts n = 0 then card R ts n else (Tt.z32,Tt.z32)
def leafOf (R:List Pn)(ts:List Int)(n:Int):Lf:=if cardErr R ts n = 0 then leaf R ts n else Lf.zero
theorem cardOf_yes {R:List Pn}{ts:List Int}{n:Int}(h:cardErr R ts n = 0):cardOf R ts n = card R ts n:=if_pos h
theorem cardOf_no {R:List Pn}{ts:List Int}{n:Int}(h:cardErr R ts n≠0):cardOf R ts n = (Tt.z32,Tt.z32):=if_neg h
theorem leafOf_yes {R:List Pn}{ts:List Int}{n:Int}(h:cardErr R ts n = 0):leafOf R ts n = leaf R ts n:=if_pos h
theorem leafOf_no {R:List Pn}{ts:List Int}{n:Int}(h:cardErr R ts n≠0):leafOf R ts n = Lf.zero:=if_neg h
def bump (ts:List Int)(n:Int):List Int:=ts.set (n.toNat - 1) (count ts n + 1)
def err (R:List Pn)(s:Gp)(c:Cg):Int:=
 if c.kind = 1 then (if cardErr R s.ts c.name = 0 then Tt.addErr s.L c.name else cardErr R s.ts c.name)
 else if c.kind = 2\/c.kind = 3 then Tt.noneErr s.L (Tt.place s.L s.P c.name)
 else 7
def next (R:List Pn)(s:Gp)(c:Cg):Gp:=
 if c.kind = 1 then ⟨Tt.putL s.L (leaf R s.ts c.name),Tt.putP s.L s.P c.name,bump s.ts c.name,s.fr ++ [Tt.addAt s.L c.name]⟩
 else if c.kind = 2 then ⟨Tt.renL s.L (Tt.place s.L s.P c.name) c.pub,Tt.renP s.L s.P (Tt.place s.L s.P c.name),s.ts,s.fr⟩
 else ⟨Tt.outL s.L (Tt.place s.L s.P c.name),Tt.outP s.L s.P (Tt.place s.L s.P c.name),s.ts,s.fr⟩
def aerr (R:List Pn)(s:Gp)(n:Int):Int:=if cardErr R s.ts n = 0 then Tt.addErr s.L n else cardErr R s.ts n
def anext (R:List Pn)(s:Gp)(n:Int):Gp:=⟨Tt.putL s.L (leaf R s.ts n),Tt.putP s.L s.P n,bump s.ts n,s.fr ++ [Tt.addAt s.L n]⟩
theorem aerr_no {R:List Pn}{s:Gp}{n:Int}(h:cardErr R s.ts n≠0):aerr R s n = cardErr R s.ts n:=if_neg h
theorem aerr_yes {R:List Pn}{s:Gp}{n:Int}(h:cardErr R s.ts n = 0):aerr R s n = Tt.addErr s.L n:=if_pos h
theorem err_add {R:List Pn}{s:Gp}{c:Cg}(h:c.kind = 1):err R s c = aerr R s c.name:=if_pos h
theorem err_set {R:List Pn}{s:Gp}{c:Cg}(h:c.kind = 2\/c.kind = 3):err R s c = Tt.noneErr s.L (Tt.place s.L s.P c.name):=by
 unfold err;rw [if_neg (by omega),if_pos h]
theorem err_else {R:List Pn}{s:Gp}{c:Cg}(h1:c.kind≠1)(h2:c.kind≠2)(h3:c.kind≠3):err R s c = 7:=by
 unfold err;rw [if_neg h1,if_neg (by omega)]
theorem next_add {R:List Pn}{s:Gp}{c:Cg}(h:c.kind = 1):next R s c = anext R s c.name:=if_pos h
theorem next_ren {R:List Pn}{s:Gp}{c:Cg}(h:c.kind = 2):next R s c = ⟨Tt.renL s.L (Tt.place s.L s.P c.name) c.pub,Tt.renP s.L s.P (Tt.place s.L s.P c.name),s.ts,s.fr⟩:=by
 unfold next;rw [if_neg (by omega),if_pos h]
theorem next_out {R:List Pn}{s:Gp}{c:Cg}(h:c.kind = 3):next R s c = ⟨Tt.outL s.L (Tt.place s.L s.P c.name),Tt.outP s.L s.P (Tt.place s.L s.P c.name),s.ts,s.fr⟩:=by
 unfold next;rw [if_neg (by omega),if_neg (by omega)]
def run (R:List Pn):Gp->List Cg->Int × Gp
 | s,[]=>(0,s)
 | s,c :: cs=>if err R s c = 0 then run R (next R s c) cs else (err R s c,none)
def result (R:List Pn)(L:List Lf)(P:List Pr)(ts:List Int)(A:List Cg):Int × Gp:=if Tt.right L P = true then run R ⟨L,P,ts,[]⟩ A else (1,none)
theorem result_no {R:List Pn}{L:List Lf}{P:List Pr}{ts:List Int}{A:List Cg}(h:Tt.right L P = false):result R L P ts A = (1,none):=by
 unfold result;rw [h,if_neg (by decide)]
theorem result_yes {R:List Pn}{L:List Lf}{P:List Pr}{ts:List Int}{A:List Cg}(h:Tt.right L P = true):result R L P ts A = run R ⟨L,P,ts,[]⟩ A:=if_pos h
theorem run_ok {R:List Pn}{s:Gp}{A:List Cg}{k:Nat}(hk:k < A.length)(h:err R s A[k] = 0):run R s (A.drop k) = run R (next R s A[k]) (A.drop (k + 1)):=by
 rw [List.drop_eq_getElem_cons hk,run,if_pos h]
theorem run_bad {R:List Pn}{s:Gp}{A:List Cg}{k:Nat}(hk:k < A.length)(h:err R s A[k]≠0):run R s (A.drop k) = (err R s A[k],none):=by
 rw [List.drop_eq_getElem_cons hk,run,if_neg h]
theorem run_end {R:List Pn}{s:Gp}{A:List Cg}{k:Nat}(hk:A.length<=k):run R s (A.drop k) = (0,s):=by
 rw [List.drop_eq_nil_of_le hk,run]
theorem bump_length (ts:List Int)(n:Int):(bump ts n).length = ts.length:=by rw [bump,List.length_set]
theorem next_right {R:List Pn}{s:Gp}{c:Cg}(h:Tt.right s.L s.P = true)(he:err R s c = 0):Tt.right (next R s c).L (next R s c).P = true:=by
 unfold err at he;unfold next
 by_cases h1:c.kind = 1
 ·rw [if_pos h1] at he |-
  by_cases h2:cardErr R s.ts c.name = 0
  ·rw [if_pos h2] at he
   exact Tt.add_right h (leaf R s.ts c.name) he
  ·rw [if_neg h2] at he; exact absurd he h2
 ·rw [if_neg h1] at he |-
  by_cases h2:c.kind = 2\/c.kind = 3
  ·rw [if_pos h2] at he
   by_cases h3:c.kind = 2
   ·rw [if_pos h3]; exact Tt.renew_right h he c.pub
   ·rw [if_neg h3]; exact Tt.remove_right h he
  ·rw [if_neg h2] at he; cases he
theorem next_ts (R:List Pn)(s:Gp)(c:Cg):(next R s c).ts.length = s.ts.length:=by
 unfold next
 split
 ·exact bump_length _ _
 ·split <;> rfl
theorem next_fr (R:List Pn)(s:Gp)(c:Cg):(next R s c).fr.length<=s.fr.length + 1:=by
 unfold next
 split
 ·simp
 ·split <;> simp
theorem known_iff {R:List Pn}{n:Int}:known R n = true↔1<=n/\n<=64/\n<=(R.length:Int):=by
 simp only [known,Cm.isNm,Bool.and_eq_true,decide_eq_true_eq]
 constructor
 ·rintro ⟨⟨a,b⟩,c⟩; exact⟨a,b,c⟩
 ·rintro ⟨a,b,c⟩; exact⟨⟨a,b⟩,c⟩
theorem left_iff {R:List Pn}{ts:List Int}{n:Int}:left R ts n = true↔0<=count ts n/\count ts n < ((person R n).cards.length:Int):=by
 simp only [left,Bool.and_eq_true,decide_eq_true_eq]
theorem person_mem {R:List Pn}{n:Int}(h:known R n = true):person R n∈R:=by
 obtain⟨h1,_,h3⟩:=known_iff.1 h;have hl:n.toNat - 1 < R.length:=by omega
 unfold person;rw [List.getD_eq_getElem?_getD,List.getElem?_eq_getElem hl];exact List.getElem_mem hl
theorem card_mem {R:List Pn}{ts:List Int}{n:Int}(h:left R ts n = true):card R ts n∈(person R n).cards:=by
 obtain⟨h1,h2⟩:=left_iff.1 h;have hl:(count ts n).toNat < (person R n).cards.length:=by omega
 unfold card;rw [List.getD_eq_getElem?_getD,List.getElem?_eq_getElem hl];exact List.getElem_mem hl
theorem cardErr_zero {R:List Pn}{ts:List Int}{n:Int}(h:cardErr R ts n = 0):known R n = true/\left R ts n = true:=by
 unfold cardErr at h
 by_cases h1:known R n = true
 ·rw [if_pos h1] at h
  by_cases h2:left R ts n = true
  ·exact⟨h1,h2⟩
  ·rw [if_neg h2] at h; cases h
 ·rw [if_neg h1] at h; cases h
end Ap
end Go.Proofs.YtinebhdilnndaaaGreatDoor
namespace Go.Proofs.YtinebhdilnndaaaGreatDoor
open Go.RowKit Go.Lib
open List renaming setIfInBounds_toArray -> sA, set_cons_zero -> sB, set_cons_succ -> sC
open BigFrame renaming wpList_want -> wQ
def icells (ts:List Int):List Value:=ts.map (Value.int .i64)
theorem icells_length (ts:List Int):(icells ts).length = ts.length:=by simp [icells]
theorem icells_one (ts:List Int):∀ v∈icells ts,v.oneCell' = true:=λv hv=>by
 obtain⟨x,_,rfl⟩:=List.mem_map.1 hv
 rfl
theorem icells_all (ts:List Int):(icells ts).toArray.all (·.oneCell') = true:=all_oneCell_toArray (icells_one ts)
theorem icells_set (ts:List Int)(i:Nat)(x:Int):(icells ts).set i (.int .i64 x) = icells (ts.set i x):=by simp [icells,List.map_set]
theorem icells_at {ts:List Int}{i:Nat}(hi:i < ts.length):(icells ts)[i]? = some (.int .i64 ts[i]):=by
 rw [icells,List.getElem?_map,List.getElem?_eq_getElem hi]; rfl
theorem timesInfo {cs:Array Value}(h:cs.size = 64):(Tryz.prog.info? 27).map (·.size) = some cs.size:=by rw [h]; kernel_rfl
theorem cardInfo {cs:Array Value}(h:cs.size = 64):(Tryz.prog.info? 50).map (·.size) = some cs.size:=by rw [h]; kernel_rfl
theorem personInfo {cs:Array Value}(h:cs.size = 33):(Tryz.prog.info? 53).map (·.size) = some cs.size:=by rw [h]; kernel_rfl
theorem groupInfo {cs:Array Value}(h:cs.size = 68):(Tryz.prog.info? 70).map (·.size) = some cs.size:=by rw [h]; kernel_rfl
def cdCells (c:List UInt8 × List UInt8):List Value:=bcells c.1 ++ bcells c.2
theorem cdCells_one (c:List UInt8 × List UInt8):∀ v∈cdCells c,v.oneCell' = true:=λv hv=>by
 rcases List.mem_append.1 hv with h | h
 ·exact bcells_one _ v h
 ·exact bcells_one _ v h
def CdOk (c:List UInt8 × List UInt8):Prop:=c.1.length = 32/\c.2.length = 32
theorem cdCells_length {c:List UInt8 × List UInt8}(h:CdOk c):(cdCells c).length = 64:=by simp [cdCells,bcells_length,h.1,h.2]
def Cds (w:World)(cv:Value)(C:List (List UInt8 × List UInt8)):Prop:=∃ ad g o c,cv = .slice ad C.length c/\∀ i (hi:i < C.length),ad = some ⟨g,o,none⟩/\g < w.heap.size/\CdOk C[i]/\w.rangeAt g (o + i * 64) (cdCells C[i])
def Pn.cells (p:Pn)(cv:Value):List Value:=bcells p.ver ++ [cv]
def Pns (w:World)(rv:Value)(R:List Pn):Prop:=∃ ad g o c,rv = .slice ad R.length c/\∀ i (hi:i < R.length),ad = some ⟨g,o,none⟩/\g < w.heap.size/\R[i].ver.length = 32/\∃ cv,w.rangeAt g (o + i * 33) (R[i].cells cv)/\Cds w cv R[i].cards
def Cgs (w:World)(v:Value)(A:List Cg):Prop:=∃ ad g o c,v = .slice ad A.length c/\∀ i (hi:i < A.length),ad = some ⟨g,o,none⟩/\g < w.heap.size/\A[i].Ok/\w.rangeAt g (o + i * 101) A[i].cells
theorem range_kept10 {w w':World}{g o:Nat}{cs:List Value}(h:w.rangeAt g o cs)(hg:g < w.heap.size)(k:Kp w w'):w'.rangeAt g o cs:=λj v hj=>by
 rw [<- h j v hj];exact k.cell hg (Nat.ne_of_lt hg)
theorem rangeAt_keptA {base b:Nat}{w w':World}(k:Kept base b w w'){g o:Nat}{cs:List Value}(h:w.rangeAt g o cs)(hg:g < base)(hb:g≠b):w'.rangeAt g o cs:=λj v hj=>by
 rw [<- h j v hj];exact k.cell hg hb
theorem Pn.cells_one (p:Pn)(ad:Option Addr)(n c:Nat):∀ v∈p.cells (.slice ad n c),v.oneCell' = true:=λv hv=>by
 rcases List.mem_append.1 hv with h | h
 ·exact bcells_one _ v h
 ·rw [List.mem_singleton.1 h]; rfl
theorem Cds.kept {w w':World}{v:Value}{C:List (List UInt8 × List UInt8)}(h:Cds w v C)(k:Kp w w'):Cds w' v C:=by
 obtain⟨ad,g,o,c,rfl,h1⟩:=h;refine⟨ad,g,o,c,rfl,λi hi=>?_⟩
 obtain⟨a,b,d,e⟩:=h1 i hi;exact⟨a,Nat.lt_of_lt_of_le b k.size,d,range_kept10 e b k⟩
theorem Pns.kept {w w':World}{v:Value}{R:List Pn}(h:Pns w v R)(k:Kp w w'):Pns w' v R:=by
 obtain⟨ad,g,o,c,rfl,h1⟩:=h;refine⟨ad,g,o,c,rfl,λi hi=>?_⟩
 obtain⟨a,b,d,cv,e,f⟩:=h1 i hi;exact⟨a,Nat.lt_of_lt_of_le b k.size,d,cv,range_kept10 e b k,f.kept k⟩
theorem Cgs.kept {w w':World}{v:Value}{A:List Cg}(h:Cgs w v A)(k:Kp w w'):Cgs w' v A:=by
 obtain⟨ad,g,o,c,rfl,h1⟩:=h;refine⟨ad,g,o,c,rfl,λi hi=>?_⟩
 obtain⟨a,b,d,e⟩:=h1 i hi;exact⟨a,Nat.lt_of_lt_of_le b k.size,d,range_kept10 e b k⟩
theorem Pns.shape {w:World}{v:Value}{R:List Pn}(h:Pns w v R):∃ ad c,v = .slice ad R.length c:=by
 obtain⟨ad,g,o,c,rfl,_⟩:=h;exact⟨ad,c,rfl⟩
theorem Cgs.shape {w:World}{v:Value}{A:List Cg}(h:Cgs w v A):∃ ad c,v = .slice ad A.length c:=by
 obtain⟨ad,g,o,c,rfl,_⟩:=h;exact⟨ad,c,rfl⟩
def gcells (lv pv:Value)(ts:List Int)(rv fv:Value):List Value:=[lv,pv] ++ (icells ts ++ [rv,fv])
theorem gcells_length (lv pv:Value){ts:List Int}(h:ts.length = 64)(rv fv:Value):(gcells lv pv ts rv fv).length = 68:=by simp [gcells,icells_length,h]
section
variable {w:World} {gb:Nat} {lv pv rv fv:Value} {ts:List Int} {t:TypeId} {fz:Nat × Nat}
theorem grp_tree (h:w.heap[gb]? = some (.cells (gcells lv pv ts rv fv).toArray t fz)):w.rangeAt gb 0 [lv,pv]:=row_part10 h [] [lv,pv] _ rfl 0 rfl
theorem grp_times (h:w.heap[gb]? = some (.cells (gcells lv pv ts rv fv).toArray t fz)):w.rangeAt gb 2 (icells ts):=row_part10 h [lv,pv] (icells ts) _ rfl 2 rfl
theorem grp_ends (h:w.heap[gb]? = some (.cells (gcells lv pv ts rv fv).toArray t fz))(h64:ts.length = 64):w.rangeAt gb 66 [rv,fv]:=row_part10 h ([lv,pv] ++ icells ts) [rv,fv] [] (by simp [gcells]) 66 (by simp [icells_length,h64])
theorem grp_time (h:w.heap[gb]? = some (.cells (gcells lv pv ts rv fv).toArray t fz)){i:Nat}(hi:i < ts.length):w.cell? ⟨gb,2 + i,none⟩ = some (.int .i64 ts[i]):=grp_times h i _ (icells_at hi)
theorem grp_roll (h:w.heap[gb]? = some (.cells (gcells lv pv ts rv fv).toArray t fz))(h64:ts.length = 64):w.cell? ⟨gb,66,none⟩ = some rv:=grp_ends h h64 0 _ rfl
theorem grp_fresh (h:w.heap[gb]? = some (.cells (gcells lv pv ts rv fv).toArray t fz))(h64:ts.length = 64):w.cell? ⟨gb,67,none⟩ = some fv:=grp_ends h h64 1 _ rfl
end
theorem load_slA {w:World}{g o:Nat}{t:TypeId}{a:Option Addr}{n c:Nat}(h:w.cell? ⟨g,o,none⟩ = some (.slice a n c))(_ht:t = 28\/t = 51\/t = 38):(loadVar t ⟨g,o,none⟩).run Tryz.prog w = .ok (.slice a n c) w:=by
 rcases _ht with rfl | rfl | rfl
 ·go_simp
 ·go_simp
 ·go_simp
theorem load_tree10 {w:World}{b o:Nat}{x y:Value}(h:w.rangeAt b o [x,y]):(loadVar 25 ⟨b,o,none⟩).run Tryz.prog w = .ok (.agg #[x,y]) w:=
 run_loadVar_mid w b o 25 _ _ h Tryz.underlying25 rfl treeInfo
theorem load_times10 {w:World}{b o:Nat}{ts:List Int}(h:w.rangeAt b o (icells ts))(h64:ts.length = 64):(loadVar 27 ⟨b,o,none⟩).run Tryz.prog w = .ok (.agg (icells ts).toArray) w:=
 run_loadVar_mid w b o 27 _ _ h Tryz.underlying27 rfl (by have:=timesInfo (cs:=(icells ts).toArray) (by simp [icells_length,h64]); simpa using this)
theorem load_person10 {w:World}{b o:Nat}{p:Pn}{cv:Value}(h:w.rangeAt b o (p.cells cv))(hv:p.ver.length = 32):(loadVar 53 ⟨b,o,none⟩).run Tryz.prog w = .ok (.agg (p.cells cv).toArray) w:=
 run_loadVar_mid w b o 53 _ _ h Tryz.underlying53 rfl (by have:=personInfo (cs:=(p.cells cv).toArray) (by simp [Pn.cells,bcells_length,hv]); simpa using this)
theorem load_card10 {w:World}{b o:Nat}{c:List UInt8 × List UInt8}(h:w.rangeAt b o (cdCells c))(hc:CdOk c):(loadVar 50 ⟨b,o,none⟩).run Tryz.prog w = .ok (.agg (cdCells c).toArray) w:=
 run_loadVar_mid w b o 50 _ _ h Tryz.underlying50 rfl (by have:=cardInfo (cs:=(cdCells c).toArray) (by simp [cdCells_length hc]); simpa using this)
theorem load_cg10 {w:World}{b o:Nat}{p:Cg}(h:w.rangeAt b o p.cells)(ok:p.Ok):(loadVar 46 ⟨b,o,none⟩).run Tryz.prog w = .ok (.agg p.cells.toArray) w:=
 run_loadVar_mid w b o 46 _ _ h Tryz.underlying46 rfl (by have:=cgInfo (Cg.size ok); simpa using this)
theorem card_init {w:World}{b o:Nat}{c:List UInt8 × List UInt8}(h:w.rangeAt b o (cdCells c))(hc:CdOk c):w.rangeAt b (o + 32) (bcells c.2):=λj v hj=>by
 have:=h (32 + j) v (by rw [cdCells,List.getElem?_append_right (by rw [bcells_length,hc.1]; omega),bcells_length,hc.1,Nat.add_sub_cancel_left]; exact hj)
 rwa [<- Nat.add_assoc] at this
theorem person_ver {w:World}{b o:Nat}{p:Pn}{cv:Value}(h:w.rangeAt b o (p.cells cv)):w.rangeAt b o (bcells p.ver):=λj v hj=>h j v (by
 have hlt:j < (bcells p.ver).length:=by
  rcases Nat.lt_or_ge j (bcells p.ver).length with h | h
  ·exact h
  ·rw [List.getElem?_eq_none h] at hj; cases hj
 rw [Pn.cells,List.getElem?_append_left hlt]; exact hj)
theorem person_cards {w:World}{b o:Nat}{p:Pn}{cv:Value}(h:w.rangeAt b o (p.cells cv))(hv:p.ver.length = 32):w.cell? ⟨b,o + 32,none⟩ = some cv:=h 32 cv (by rw [Pn.cells,List.getElem?_append_right (by rw [bcells_length,hv]; omega),bcells_length,hv]; rfl)
theorem alloc_person (w:World):(Instr.alloc 53 true (.tuple #[])).run Tryz.prog w = .ok (.pointer (some ⟨w.heap.size,0,none⟩)) (w.alloc (.cells (bcells Tt.z32 ++ [Value.slice none 0 0]).toArray 53)):=by kernel_rfl
theorem alloc_card (w:World):(Instr.alloc 50 true (.tuple #[])).run Tryz.prog w = .ok (.pointer (some ⟨w.heap.size,0,none⟩)) (w.alloc (.cells (cdCells (Tt.z32,Tt.z32)).toArray 50)):=by kernel_rfl
theorem build_card0 (w:World):(Instr.build 50 #[]).run Tryz.prog w = .ok (.agg (cdCells (Tt.z32,Tt.z32)).toArray) w:=by kernel_rfl
theorem alloc_times (w:World):(Instr.alloc 27 true (.tuple #[])).run Tryz.prog w = .ok (.pointer (some ⟨w.heap.size,0,none⟩)) (w.alloc (.cells (icells Ap.z64).toArray 27)):=by kernel_rfl
theorem build_times0 (w:World):(Instr.build 27 #[]).run Tryz.prog w = .ok (.agg (icells Ap.z64).toArray) w:=by kernel_rfl
theorem alloc_group (w:World):(Instr.alloc 70 true (.tuple #[])).run Tryz.prog w = .ok (.pointer (some ⟨w.heap.size,0,none⟩)) (w.alloc (.cells (gcells (.slice none 0 0) (.slice none 0 0) Ap.z64 (.slice none 0 0) (.slice none 0 0)).toArray 70)):=by kernel_rfl
theorem build_leaf3 (w:World)(n:Int)(k s:List UInt8)(hk:k.length = 32)(hs:s.length = 32):
  (Instr.build 48 #[(0,.int .i64 n),(1,.agg (bcells k).toArray),(2,.agg (bcells s).toArray)]).run Tryz.prog w = .ok (.agg (Lf.cells ⟨n,k,s,Tt.z32⟩).toArray) w:=by
 revert k
 refine list32_8 ?_;intro a0 a1 a2 a3 a4 a5 a6 a7 a8 a9 a10 a11 a12 a13 a14 a15 a16 a17 a18 a19 a20 a21 a22 a23 a24 a25 a26 a27 a28 a29 a30 a31
 revert s
 refine list32_8 ?_;intro b0 b1 b2 b3 b4 b5 b6 b7 b8 b9 b10 b11 b12 b13 b14 b15 b16 b17 b18 b19 b20 b21 b22 b23 b24 b25 b26 b27 b28 b29 b30 b31;kernel_rfl
theorem list64_10 {p:List Int->Prop}(h:∀ b0 b1 b2 b3 b4 b5 b6 b7 b8 b9 b10 b11 b12 b13 b14 b15 b16 b17 b18 b19 b20 b21 b22 b23 b24 b25 b26 b27 b28 b29 b30 b31 b32 b33 b34 b35 b36 b37 b38 b39 b40 b41 b42 b43 b44 b45 b46 b47 b48 b49 b50 b51 b52 b53 b54 b55 b56 b57 b58 b59 b60 b61 b62 b63,p (b0 :: b1 :: b2 :: b3 :: b4 :: b5 :: b6 :: b7 :: b8 :: b9 :: b10 :: b11 :: b12 :: b13 :: b14 :: b15 :: b16 :: b17 :: b18 :: b19 :: b20 :: b21 :: b22 :: b23 :: b24 :: b25 :: b26 :: b27 :: b28 :: b29 :: b30 :: b31 :: b32 :: b33 :: b34 :: b35 :: b36 :: b37 :: b38 :: b39 :: b40 :: b41 :: b42 :: b43 :: b44 :: b45 :: b46 :: b47 :: b48 :: b49 :: b50 :: b51 :: b52 :: b53 :: b54 :: b55 :: b56 :: b57 :: b58 :: b59 :: b60 :: b61 :: b62 :: b63 :: [])):∀ l:List Int,l.length = 64->p l:=λl hl=>
 match l,hl with
 | b0 :: b1 :: b2 :: b3 :: b4 :: b5 :: b6 :: b7 :: b8 :: b9 :: b10 :: b11 :: b12 :: b13 :: b14 :: b15 :: b16 :: b17 :: b18 :: b19 :: b20 :: b21 :: b22 :: b23 :: b24 :: b25 :: b26 :: b27 :: b28 :: b29 :: b30 :: b31 :: b32 :: b33 :: b34 :: b35 :: b36 :: b37 :: b38 :: b39 :: b40 :: b41 :: b42 :: b43 :: b44 :: b45 :: b46 :: b47 :: b48 :: b49 :: b50 :: b51 :: b52 :: b53 :: b54 :: b55 :: b56 :: b57 :: b58 :: b59 :: b60 :: b61 :: b62 :: b63 :: [],_=>h b0 b1 b2 b3 b4 b5 b6 b7 b8 b9 b10 b11 b12 b13 b14 b15 b16 b17 b18 b19 b20 b21 b22 b23 b24 b25 b26 b27 b28 b29 b30 b31 b32 b33 b34 b35 b36 b37 b38 b39 b40 b41 b42 b43 b44 b45 b46 b47 b48 b49 b50 b51 b52 b53 b54 b55 b56 b57 b58 b59 b60 b61 b62 b63
theorem build_group3 (w:World)(la pa ra:Option Addr)(ln lc pn pc rn rc:Nat)(ts:List Int)(h:ts.length = 64):
  (Instr.build 70 #[(0,.agg #[.slice la ln lc,.slice pa pn pc]),(1,.agg (icells ts).toArray),(2,.slice ra rn rc)]).run Tryz.prog w = .ok (.agg (gcells (.slice la ln lc) (.slice pa pn pc) ts (.slice ra rn rc) (.slice none 0 0)).toArray) w:=by
 revert ts
 refine list64_10 ?_;intro b0 b1 b2 b3 b4 b5 b6 b7 b8 b9 b10 b11 b12 b13 b14 b15 b16 b17 b18 b19 b20 b21 b22 b23 b24 b25 b26 b27 b28 b29 b30 b31 b32 b33 b34 b35 b36 b37 b38 b39 b40 b41 b42 b43 b44 b45 b46 b47 b48 b49 b50 b51 b52 b53 b54 b55 b56 b57 b58 b59 b60 b61 b62 b63;kernel_rfl
theorem yieldsIf_buildN {P:Program}{ops:Array Oper}{S:World->Prop}{op:Oper}{a:Act}(hw:Region.wanted op (yielded ops a.tmps) = true)(t:TypeId)(xs:Array (Nat × Operand))(ho:op.op = .build t xs)(vs:Array (Nat × Value))(hv:(xs.map λ(i,x)=>(i,a.eval x)) = vs)(r:Value)(hr:∀ w,(Instr.build t vs).run P w = .ok r w):YieldsIf P ops S op r a:=
 .inl ⟨hw,λw _=>by
  subst hv;unfold execOp
  simp only [ho,Sem.run_bind,hr,Result.andThen_ok,Sem.run_pure]⟩
theorem leafof_calls10 (gb:Nat)(lv pv rv fv:Value)(ts:List Int)(R:List Pn)(n:Int)(w:World)(hg:w.heap[gb]? = some (.cells (gcells lv pv ts rv fv).toArray 70 (0,0)))(hR:Pns w rv R)(h64:ts.length = 64)(hn:R.length<=1000)(hrc:∀ p∈R,p.cards.length<=1000):
  Calls Tryz.prog 82 #[.pointer (some ⟨gb,0,none⟩),.int .i64 n] w λe w'=>e = .returned (.tuple #[.agg (Ap.leafOf R ts n).cells.toArray,.int .i64 (Ap.cardErr R ts n)])/\Kept w.heap.size w.heap.size w w':=by
 obtain⟨rad,rc,rfl⟩:=hR.shape;have hR0:=hR;obtain⟨rn,hrn⟩:∃ rn,rn = R.length:=⟨_,rfl⟩;have hrn9:(rn:Int)<=1000:=by omega
 have HRN:=hid hrn;rw [<- hrn] at hg;have HG:=hid hg;have HR:=hid hR;have H64:=hid h64;have HRC:=hid hrc;have HLZ:=hid (leafInfo (Lf.size Lf.zero_ok));clear hrn hR hR0 hg hn h64 hrc
 go_enter Tryz.func82,Tryz.ntmps82
 go_upto_region 0 with fail
 refine wp_region_lit ?_;refine @wpL_alloc _ _ _ _ _ _ _ _ ?_ 48 rfl _ (alloc_leaf _) ?_;kernel_rfl
 simp only [Act.put,sA,sB,sC];have k1:Kept w.heap.size w.heap.size w (w.alloc (.cells Lf.zero.cells.toArray 48)):=(Kept.refl _ _ _).alloc (Nat.le_refl _) _
 have r1:=heap_new w (.cells Lf.zero.cells.toArray 48)
 have z1:(w.alloc (.cells Lf.zero.cells.toArray 48)).heap.size = w.heap.size + 1:=by simp
 generalize w.alloc (.cells Lf.zero.cells.toArray 48) = w1 at k1 r1 z1 |-
 obtain⟨rb,hrb⟩:∃ n,n = w.heap.size:=⟨_,rfl⟩;rw [<- hrb] at r1
 (try rw [<- hrb])
 have HRB:=hid hrb;have K1:=hid k1;have R1:=hid r1;have G1:=hid (row_kept HG.out k1);have HZ1:=hid (show w1.heap.size = w.heap.size + 1 from z1);clear hrb k1 r1 z1 HG;refine wW λK hK=>?_;go_simp;apply hK;clear hK K
 by_cases hnm:Cm.isNm n = true
 ·obtain⟨hn1,hn64⟩:=Cm.isNm_iff.1 hnm
  obtain⟨k,rfl⟩:∃ k:Nat,n = (k:Int) + 1:=⟨(n - 1).toNat,by omega⟩
  have hk:k < 64:=by omega
  have hki:(k:Int) < 64:=by omega
  have HNM:=hid hnm;clear hnm
  by_cases hkn:k < rn
  ·have hng:¬ (k:Int) + 1 > (rn:Int):=by omega
   have hkr:k < R.length:=by rw [<- HRN.out]; exact hkn
   as_aux_lemma=>
    have HNC:=hid (by have h:=isname_calls10 ((k:Int) + 1) w1; rwa [HNM.out] at h)
    go_upto_region 1 with fail
    refine wp_region_lit ?_;refine wW λK hK=>?_;go_simp;apply hK;clear hK K;refine wW λK hK=>?_;go_simp;go_at_call 52
    refine(HNC.out).mono ?_;rintro e w9 ⟨rfl,h9⟩;subst w9;apply hK;clear hK K;iterate 6 (refine wW λK hK=>?_;go_simp;apply hK;clear hK K)
    refine wLk 28 (.tmp 15) rfl (gb) (66) rfl (.slice rad rn rc) (load_slA (grp_roll G1.out H64.out) (.inl rfl)) ?_
    simp only [Act.put,sA,sB,sC];iterate 3 (refine wW λK hK=>?_;go_simp;apply hK;clear hK K)
    clear hng;have hP:=HR.out;obtain⟨rad',rg,ro,rc',hsl,hcell⟩:=hP;rw [<- HRN.out] at hsl;injection hsl with h1 h2 h3
    subst h1 h3;clear h2;obtain⟨had,hrg,hver,cv,hrow,hcd⟩:=hcell k hkr;subst had;obtain⟨p,hp⟩:∃ p,p = R[k]:=⟨_,rfl⟩;rw [<- hp] at hver hrow hcd
    have HP:=hid (show Ap.person R ((k:Int) + 1) = p by
     rw [Ap.person,show((k:Int) + 1).toNat - 1 = k by omega,List.getD_eq_getElem?_getD,List.getElem?_eq_getElem hkr,Option.getD_some,hp])
    have HPC:=hid (show p.cards.length<=1000 from HRC.out p (by rw [hp]; exact List.getElem_mem hkr))
    have hkt:k < ts.length:=by rw [H64.out]; exact hk
    obtain⟨c,hc⟩:∃ c,c = ts[k]:=⟨_,rfl⟩
    have HCT:=hid (show Ap.count ts ((k:Int) + 1) = c by
     rw [Ap.count,show((k:Int) + 1).toNat - 1 = k by omega,List.getD_eq_getElem?_getD,List.getElem?_eq_getElem hkt,Option.getD_some,hc])
    obtain⟨cad,cg,co,cc,rfl,hcc⟩:=hcd;obtain⟨cn,hcn⟩:∃ cn,cn = p.cards.length:=⟨_,rfl⟩;have hcn9:(cn:Int)<=1000:=by have:=HPC.out; omega
    have HCN:=hid hcn;rw [<- hcn] at hrow;have HROW:=hid hrow;have HVER:=hid hver;have HCC:=hid hcc;have HTC:=hid (λ(x:World) (kk:Kp w1 x)=>(by rw [hc]; exact grp_time (row_kept G1.out kk) hkt:x.cell? ⟨gb,2 + k,none⟩ = some (.int .i64 c)))
    obtain⟨PD,hPD⟩:∃ D,D = (p.cells (.slice cad cn cc)).toArray:=⟨_,rfl⟩;have HPS:=hid (show PD.size = 33 by rw [hPD]; simp [Pn.cells,bcells_length,hver])
    have HPA:=hid (show PD.all (·.oneCell') = true by rw [hPD]; exact all_oneCell_toArray (Pn.cells_one p _ _ _))
    have HPI:=hid (personInfo HPS.out);have HPD:=hid hPD;have HLP:=hid (λ(x:World) (kk:Kp w1 x)=>(by rw [hPD]; exact load_person10 (range_kept10 hrow hrg (K1.out.onto kk)) hver:(loadVar 53 ⟨rg,ro + k * 33,none⟩).run Tryz.prog x = .ok (.agg PD) x))
    have HLR:=hid (λ(x:World) (kk:Kp w1 x)=>load_slA (t:=28) (grp_roll (row_kept G1.out kk) H64.out) (.inl rfl))
    have HKR:=hid hkr;clear hcell hver hrow hp hc hcn hcc hPD hrg hkr hkt
    go_upto_region 3 with fail
    have KD:Kp w1 w1.drew:=(Kept.refl _ _ _).drew;obtain⟨wd,hwd⟩:∃ wd,wd = w1.drew:=⟨_,rfl⟩;rw [<- hwd] at KD;have HKW:=hid (show IntKind.i64.wrap (k:Int) = (k:Int) from wrap_small _ (by omega) (by omega))
    have hk0:¬ (k:Int) < 0:=by omega
    have hkr2:(k:Int) < (rn:Int):=by omega
    refine wp_region_noPanic ?_;refine wp_region_held_drew (S:=λx=>Kp w1 x) (by kernel_rfl) ((Kept.refl _ _ _).drew) (λhH=>?_)
    rw [<- hwd] at hH |-;clear hwd;refine tkE (i:=0) 21 rfl hH ?_
    apply Exists.intro;apply And.intro
    ·intro w9 _
     go_simp
     first | done | rfl
    simp only [sA,sB,sC];refine tkE (i:=1) 22 rfl hH ?_
    apply Exists.intro;apply And.intro
    ·intro w9 _
     go_simp
     first | done | rfl
    simp only [sA,sB,sC];refine tkE (i:=2) 23 rfl hH ?_
    apply Exists.intro;apply And.intro
    ·intro w9 _
     go_simp
     first | done | rfl
    simp only [sA,sB,sC];refine tkA (i:=3) 24 (.slice (some ⟨rg,ro,none⟩) rn rc) rfl (yieldsIf_load_known (by kernel_rfl) 28 _ rfl (gb) (66) rfl (.slice (some ⟨rg,ro,none⟩) rn rc) (λx hx=>HLR.out x hx)) hH ?_
    simp only [sA,sB,sC];refine tkE (i:=4) 25 rfl hH ?_
    apply Exists.intro;apply And.intro
    ·intro w9 _
     go_simp
     first | done | rfl
    simp only [sA,sB,sC];refine tkA (i:=5) 26 (.int .i64 (k:Int)) rfl (.inl ⟨by kernel_rfl,λw9 _=>by go_simp; first | exact HKW.out | rw [HKW.out]⟩) hH ?_
    simp only [sA,sB,sC];refine tkE (i:=6) 27 rfl hH ?_
    apply Exists.intro;apply And.intro
    ·intro w9 _
     go_simp
     first | done | rfl
    simp only [sA,sB,sC];refine tkA (i:=7) 28 (.agg PD) rfl (yieldsIf_load_known (by kernel_rfl) 53 _ rfl (rg) (ro + k * 33) rfl (.agg PD) (λx hx=>HLP.out x hx)) hH ?_
    simp only [sA,sB,sC];refine tkE (i:=8) 29 rfl hH ?_
    apply Exists.intro;apply And.intro
    ·intro w9 _
     go_simp
     first | done | rfl
    simp only [sA,sB,sC];refine tkE (i:=9) 30 rfl hH ?_
    apply Exists.intro;apply And.intro
    ·intro w9 _
     go_simp
     first | done | rfl
    simp only [sA,sB,sC];refine tkA (i:=10) 31 (.int .i64 (k:Int)) rfl (.inl ⟨by kernel_rfl,λw9 _=>by go_simp; first | exact HKW.out | rw [HKW.out]⟩) hH ?_
    simp only [sA,sB,sC];refine tkE (i:=11) 32 rfl hH ?_
    apply Exists.intro;apply And.intro
    ·intro w9 _
     go_simp
     first | done | rfl
    simp only [sA,sB,sC];refine tkE (i:=12) 33 rfl hH ?_
    apply Exists.intro;apply And.intro
    ·intro w9 _
     go_simp
     first | done | rfl
    simp only [sA,sB,sC];refine tkE (i:=13) 34 rfl hH ?_
    apply Exists.intro;apply And.intro
    ·intro w9 _
     go_simp
     first | done | rfl
    simp only [sA,sB,sC];refine tkA (i:=14) 35 (.int .i64 c) rfl (yieldsIf_load_known (by kernel_rfl) 3 _ rfl (gb) (2 + k) rfl (.int .i64 c) (λx hx=>load_int10 (HTC.out x hx))) hH ?_
    simp only [sA,sB,sC];refine wpAnyH_ready (rs:=[15]) (by kernel_rfl) (by simp) ?_
    refine AllReadyH.cons rfl (λK hK=>?_) AllReadyH.nil
    rw [if_pos (by rfl)]
    refine wp_alloc_known 53 rfl (some 6) rfl _ (alloc_person wd) ?_
    simp only [Act.put,sA,sB,sC];have ra:=heap_new wd (.cells (bcells Tt.z32 ++ [Value.slice none 0 0]).toArray 53)
    have ka:Kp w1 (wd.alloc (.cells (bcells Tt.z32 ++ [Value.slice none 0 0]).toArray 53)):=KD.onto ((Kept.refl _ _ _).alloc (Nat.le_refl _) _)
    have hlb:w1.heap.size<=wd.heap.size:=KD.size;generalize wd.alloc (.cells (bcells Tt.z32 ++ [Value.slice none 0 0]).toArray 53) = wc at ra ka |-
    obtain⟨pb,hpb⟩:∃ n,n = wd.heap.size:=⟨_,rfl⟩;rw [<- hpb] at ra hlb
    (try rw [<- hpb])
    clear hpb;have RA:=hid ra;have KS:=hid ka;have HLB:=hid hlb;clear ra ka hlb;refine hK.out _ _ KS.out (λhH=>?_)
    clear hK K;refine wpAnyH_ready (rs:=[16]) (by kernel_rfl) (by simp) ?_
    refine AllReadyH.cons rfl (λK hK=>?_) AllReadyH.nil
    rw [if_pos (by rfl)]
    refine wp_store_row_none 53 _ _ rfl rfl (pb) PD rfl rfl 53 (bcells Tt.z32 ++ [Value.slice none 0 0]).toArray (RA.out) (HPI.out) (by rw [HPS.out]; rfl) (HPA.out) ?_
    have rs:=setRow_heap wc pb (bcells Tt.z32 ++ [Value.slice none 0 0]).toArray PD _ _ RA.out;have ks:Kp w1 (wc.setRow pb PD):=kept_setRow10 KS.out pb HLB.out PD;generalize wc.setRow pb PD = we at rs ks |-;have RS:=hid rs;have KS:=hid ks;clear rs ks;refine hK.out _ _ KS.out (λhH=>?_)
    clear hK K;refine tkE (i:=17) 7 rfl hH ?_
    apply Exists.intro;apply And.intro
    ·intro w9 _
     go_simp
     first | done | rfl
    simp only [sA,sB,sC];refine wpAnyH_done (by kernel_rfl) ?_ _
    refine NoPanic.normal ?_
    have PC:=hid (show we.cell? ⟨pb,32,none⟩ = some (.slice cad cn cc) from by
     have h:=RS.out;rw [HPD.out] at h;have h2:=row_part10 h (bcells p.ver) [.slice cad cn cc] [] (by rw [Pn.cells,List.append_nil]) 32 (by rw [bcells_length,HVER.out]) 0 _ rfl
     exact h2)
    have PV:=hid (show we.rangeAt pb 0 (bcells p.ver) from by
     have h:=RS.out;rw [HPD.out] at h
     exact row_part10 h [] (bcells p.ver) [.slice cad cn cc] rfl 0 rfl)
    have RB:=hid (row_kept R1.out KS.out);have KE:=hid (K1.out.onto KS.out);clear hH
    by_cases hc0:c < 0
    ·have HE:Hid (Ap.cardErr R ts ((k:Int) + 1) = 10):=hid (by
      rw [Ap.cardErr,if_pos (Ap.known_iff.2 (by have:=HKR.out; omega)),if_neg (λh=>by have:=(Ap.left_iff.1 h).1; rw [HCT.out] at this; omega)])
     as_aux_lemma=>
      go_upto_region 4 with fail
      refine wp_region_lit ?_;iterate 3 (refine wW λK hK=>?_;go_simp;apply hK;clear hK K)
      (iterate 5 (refine @wpList_skip _ _ _ _ _ _ _ ?_ ?_;kernel_rfl;simp only [Act.put,sA,sB,sC]));refine wW λK hK=>?_;go_simp;apply hK;clear hK K
      go_upto_region 5 with fail
      refine wp_region_lit ?_;refine @wpL_build0 _ _ _ _ _ _ _ ?_ 48 rfl _ (build_leaf0 _) ?_;kernel_rfl
      simp only [Act.put,sA,sB,sC];refine wpList_store_row rfl 48 _ _ rfl rb Lf.zero.cells.toArray rfl rfl 48 Lf.zero.cells.toArray RB.out HLZ.out rfl (all_oneCell_toArray Lf.zero.cells_one) ?_
      simp only [Act.put];refine wW λK hK=>?_;go_simp;apply hK;clear hK K;have R3:=setRow_heap we rb _ Lf.zero.cells.toArray _ _ RB.out;have K3:Kept w.heap.size w.heap.size w (we.setRow rb Lf.zero.cells.toArray):=kept_setRow10 KE.out rb (by rw [HRB.out]; exact Nat.le_refl _) Lf.zero.cells.toArray
      generalize we.setRow rb Lf.zero.cells.toArray = w3 at R3 K3 |-;go_wp2;refine bodyPost_ret (results_row2 rfl _ _ rb 48 Lf.zero.cells.toArray (0,0) _ rfl R3 Tryz.underlying48 rfl HLZ.out) rfl ?_
      exact⟨by rw [Ap.leafOf_no (by rw [HE.out]; decide),HE.out]; rfl,K3⟩
    ·by_cases hcl:c < (cn:Int)
     ·obtain⟨j,rfl⟩:∃ j:Nat,c = (j:Int):=⟨c.toNat,by omega⟩
      have hge:¬ (j:Int)>=(cn:Int):=by omega
      have hjc:j < p.cards.length:=by rw [<- HCN.out]; omega
      obtain⟨had,hcg,hok,hcr⟩:=HCC.out j hjc;subst had;obtain⟨cd,hcd⟩:∃ d,d = p.cards[j]:=⟨_,rfl⟩;rw [<- hcd] at hok hcr
      have HE:Hid (Ap.cardErr R ts ((k:Int) + 1) = 0):=hid (by
       rw [Ap.cardErr,if_pos (Ap.known_iff.2 (by have:=HKR.out; omega)),if_pos (Ap.left_iff.2 (by rw [HCT.out,HP.out,<- HCN.out]; omega))])
      have HLE:Hid (Ap.leaf R ts ((k:Int) + 1) = ⟨(k:Int) + 1,cd.2,p.ver,Tt.z32⟩):=hid (by
       rw [Ap.leaf,Ap.card,HP.out,HCT.out,Int.toNat_natCast,List.getD_eq_getElem?_getD,List.getElem?_eq_getElem hjc,Option.getD_some,hcd])
      have HCI:=hid (λ(x:World) (kk:Kept we.heap.size rb we x)=>load_hash (card_init (rangeAt_keptA kk (range_kept10 hcr hcg KE.out) (Nat.lt_of_lt_of_le hcg KE.out.size) (by have:=HRB.out; omega)) hok) hok.2)
      have HPR:=hid (show pb≠rb by have:=HLB.out; have:=HZ1.out; have:=HRB.out; omega)
      have HVI:=hid (λ(x:World) (kk:Kept we.heap.size rb we x)=>load_hash (rangeAt_keptA kk PV.out (lt_of_block RS.out) HPR.out) HVER.out)
      have HPX:=hid (λ(x:World) (kk:Kept we.heap.size rb we x)=>load_slA (t:=51) ((kk.cell (p:=⟨pb,32,none⟩) (lt_of_block RS.out) HPR.out).trans PC.out) (.inr (.inl rfl)))
      have HBL:=hid (λu=>build_leaf3 u ((k:Int) + 1) cd.2 p.ver hok.2 HVER.out)
      obtain⟨LD,hLD⟩:∃ D,D = (Lf.cells ⟨(k:Int) + 1,cd.2,p.ver,Tt.z32⟩).toArray:=⟨_,rfl⟩;have HLS:=hid (show LD.size = 97 by rw [hLD]; exact Lf.size ⟨hok.2,HVER.out,rfl⟩)
      have HLI:=hid (leafInfo HLS.out);have HLA:=hid (show LD.all (·.oneCell') = true by rw [hLD]; exact all_oneCell_toArray (Lf.cells_one _))
      obtain⟨D1,hD1⟩:∃ D,D = (bcells cd.2).toArray:=⟨_,rfl⟩;obtain⟨D2,hD2⟩:∃ D,D = (bcells p.ver).toArray:=⟨_,rfl⟩;rw [<- hD1] at HCI;rw [<- hD2] at HVI;rw [<- hLD,<- hD1,<- hD2] at HBL;have HLD:=hid hLD;have HJC:=hid hjc;have hjl:(j:Int) < (cn:Int):=hcl;clear hcr hok hcg hcd hLD hD1 hD2 hjc hcl hc0
      as_aux_lemma=>
       go_upto_region 4 with fail
       refine wp_region_lit ?_;iterate 5 (refine wW λK hK=>?_;go_simp;apply hK;clear hK K)
       refine wLk 51 (.tmp 40) rfl (pb) (32) rfl (.slice (some ⟨cg,co,none⟩) cn cc) (load_slA PC.out (.inr (.inl rfl))) ?_
       simp only [Act.put,sA,sB,sC];iterate 3 (refine wW λK hK=>?_;go_simp;apply hK;clear hK K)
       go_upto_region 6 with fail
       have RD:we.drew.heap[rb]? = some (.cells Lf.zero.cells.toArray 48 (0,0)):=row_kept RB.out (Kept.refl _ _ _).drew
       have KD2:Kept w.heap.size w.heap.size w we.drew:=KE.out.onto (Kept.refl _ _ _).drew;refine wp_region_noPanic ?_;refine wp_region_held_drew (S:=λx=>Kept we.heap.size rb we x) (by kernel_rfl) ((Kept.refl _ _ _).drew) (λhH=>?_)
       have KDD:=hid hH;obtain⟨wd,hwd⟩:∃ wd,wd = we.drew:=⟨_,rfl⟩;rw [<- hwd] at hH KDD RD KD2 |-;clear hwd;refine tkE (i:=0) 46 rfl hH ?_
       apply Exists.intro;apply And.intro
       ·intro w9 _
        go_simp
        first | done | rfl
       simp only [sA,sB,sC];refine tkE (i:=1) 47 rfl hH ?_
       apply Exists.intro;apply And.intro
       ·intro w9 _
        go_simp
        first | done | rfl
       simp only [sA,sB,sC];refine tkA (i:=2) 48 (.slice (some ⟨cg,co,none⟩) cn cc) rfl (yieldsIf_load_known (by kernel_rfl) 51 _ rfl (pb) (32) rfl (.slice (some ⟨cg,co,none⟩) cn cc) (λx hx=>HPX.out x hx)) hH ?_
       simp only [sA,sB,sC];refine tkE (i:=3) 49 rfl hH ?_
       apply Exists.intro;apply And.intro
       ·intro w9 _
        go_simp
        first | done | rfl
       simp only [sA,sB,sC];refine tkE (i:=4) 50 rfl hH ?_
       apply Exists.intro;apply And.intro
       ·intro w9 _
        go_simp
        first | done | rfl
       simp only [sA,sB,sC];refine tkE (i:=5) 51 rfl hH ?_
       apply Exists.intro;apply And.intro
       ·intro w9 _
        go_simp
        first | done | rfl
       simp only [sA,sB,sC];refine tkA (i:=6) 52 (.agg D1) rfl (yieldsIf_load_known (by kernel_rfl) 30 _ rfl (cg) (co + j * 64 + 32) rfl (.agg D1) (λx hx=>HCI.out x hx)) hH ?_
       simp only [sA,sB,sC];refine tkE (i:=7) 53 rfl hH ?_
       apply Exists.intro;apply And.intro
       ·intro w9 _
        go_simp
        first | done | rfl
       simp only [sA,sB,sC];refine tkA (i:=8) 54 (.agg D2) rfl (yieldsIf_load_known (by kernel_rfl) 30 _ rfl (pb) (0) rfl (.agg D2) (λx hx=>HVI.out x hx)) hH ?_
       simp only [sA,sB,sC];refine tkA (i:=9) 55 (.agg LD) rfl (yieldsIf_buildN (by kernel_rfl) 48 _ rfl #[(0,.int .i64 ((k:Int) + 1)),(1,.agg D1),(2,.agg D2)] (by simp only [List.map_toArray,List.map_cons,List.map_nil]; rfl) (.agg LD) (λx=>HBL.out x)) hH ?_
       simp only [sA,sB,sC];refine wpAnyH_ready (rs:=[10]) (by kernel_rfl) (by simp) ?_
       refine AllReadyH.cons rfl (λK hK=>?_) AllReadyH.nil
       rw [if_pos (by rfl)]
       refine wp_store_row_none 48 _ _ rfl rfl (rb) LD rfl rfl 48 Lf.zero.cells.toArray (RD) (HLI.out) (by rw [HLS.out]; exact Lf.size Lf.zero_ok) (HLA.out) ?_
       have R3:=setRow_heap wd rb Lf.zero.cells.toArray LD _ _ RD;have K3:Kept w.heap.size w.heap.size w (wd.setRow rb LD):=kept_setRow10 KD2 rb (by rw [HRB.out]; exact Nat.le_refl _) LD
       have KS:Hid (Kept we.heap.size rb we (wd.setRow rb LD)):=hid (KDD.out.trans ⟨rfl,rfl,rfl,by simp [World.setRow],λi hi hne=>setRow_other wd rb i LD hne⟩)
       generalize wd.setRow rb LD = w3 at R3 K3 KS |-;refine hK.out _ _ KS.out (λhH=>?_)
       clear hK K;refine tkE (i:=11) 5 rfl hH ?_
       apply Exists.intro;apply And.intro
       ·intro w9 _
        go_simp
        first | done | rfl
       simp only [sA,sB,sC];refine wpAnyH_done (by kernel_rfl) ?_ _
       refine NoPanic.normal ?_;go_wp2;refine bodyPost_ret (results_row2 rfl _ _ rb 48 LD (0,0) _ rfl R3 Tryz.underlying48 rfl HLI.out) rfl ?_
       exact⟨by rw [Ap.leafOf_yes HE.out,HE.out,HLE.out,<- HLD.out]; rfl,K3⟩
     ·have hge:c>=(cn:Int):=by omega
      have HE:Hid (Ap.cardErr R ts ((k:Int) + 1) = 10):=hid (by
       rw [Ap.cardErr,if_pos (Ap.known_iff.2 (by have:=HKR.out; omega)),if_neg (λh=>by have:=(Ap.left_iff.1 h).2; rw [HCT.out,HP.out,<- HCN.out] at this; omega)])
      clear hcl
      as_aux_lemma=>
       go_upto_region 4 with fail
       refine wp_region_lit ?_;iterate 5 (refine wW λK hK=>?_;go_simp;apply hK;clear hK K)
       refine wLk 51 (.tmp 40) rfl (pb) (32) rfl (.slice cad cn cc) (load_slA PC.out (.inr (.inl rfl))) ?_
       simp only [Act.put,sA,sB,sC];iterate 3 (refine wW λK hK=>?_;go_simp;apply hK;clear hK K)
       go_upto_region 5 with fail
       refine wp_region_lit ?_;refine @wpL_build0 _ _ _ _ _ _ _ ?_ 48 rfl _ (build_leaf0 _) ?_;kernel_rfl
       simp only [Act.put,sA,sB,sC];refine wpList_store_row rfl 48 _ _ rfl rb Lf.zero.cells.toArray rfl rfl 48 Lf.zero.cells.toArray RB.out HLZ.out rfl (all_oneCell_toArray Lf.zero.cells_one) ?_
       simp only [Act.put];refine wW λK hK=>?_;go_simp;apply hK;clear hK K;have R3:=setRow_heap we rb _ Lf.zero.cells.toArray _ _ RB.out;have K3:Kept w.heap.size w.heap.size w (we.setRow rb Lf.zero.cells.toArray):=kept_setRow10 KE.out rb (by rw [HRB.out]; exact Nat.le_refl _) Lf.zero.cells.toArray
       generalize we.setRow rb Lf.zero.cells.toArray = w3 at R3 K3 |-;go_wp2;refine bodyPost_ret (results_row2 rfl _ _ rb 48 Lf.zero.cells.toArray (0,0) _ rfl R3 Tryz.underlying48 rfl HLZ.out) rfl ?_
       exact⟨by rw [Ap.leafOf_no (by rw [HE.out]; decide),HE.out]; rfl,K3⟩
  ·have hgt:(k:Int) + 1 > (rn:Int):=by omega
   have HE:Hid (Ap.cardErr R ts ((k:Int) + 1) = 7):=hid (by rw [Ap.cardErr,if_neg (λh=>by have:=(Ap.known_iff.1 h).2.2; have:=HRN.out; omega)])
   clear hkn
   as_aux_lemma=>
    have HNC:=hid (by have h:=isname_calls10 ((k:Int) + 1) w1; rwa [HNM.out] at h)
    go_upto_region 1 with fail
    refine wp_region_lit ?_;refine wW λK hK=>?_;go_simp;apply hK;clear hK K;refine wW λK hK=>?_;go_simp;go_at_call 52
    refine(HNC.out).mono ?_;rintro e w9 ⟨rfl,h9⟩;subst w9;apply hK;clear hK K;iterate 6 (refine wW λK hK=>?_;go_simp;apply hK;clear hK K)
    refine wLk 28 (.tmp 15) rfl (gb) (66) rfl (.slice rad rn rc) (load_slA (grp_roll G1.out H64.out) (.inl rfl)) ?_
    simp only [Act.put,sA,sB,sC];iterate 3 (refine wW λK hK=>?_;go_simp;apply hK;clear hK K)
    go_upto_region 2 with fail
    refine wp_region_lit ?_;refine @wpL_build0 _ _ _ _ _ _ _ ?_ 48 rfl _ (build_leaf0 _) ?_;kernel_rfl
    simp only [Act.put,sA,sB,sC];refine wpList_store_row rfl 48 _ _ rfl rb Lf.zero.cells.toArray rfl rfl 48 Lf.zero.cells.toArray R1.out HLZ.out rfl (all_oneCell_toArray Lf.zero.cells_one) ?_
    simp only [Act.put];refine wW λK hK=>?_;go_simp;apply hK;clear hK K;have R3:=setRow_heap w1 rb _ Lf.zero.cells.toArray _ _ R1.out;have K3:Kept w.heap.size w.heap.size w (w1.setRow rb Lf.zero.cells.toArray):=kept_setRow10 K1.out rb (by rw [HRB.out]; exact Nat.le_refl _) Lf.zero.cells.toArray
    generalize w1.setRow rb Lf.zero.cells.toArray = w3 at R3 K3 |-;go_wp2;refine bodyPost_ret (results_row2 rfl _ _ rb 48 Lf.zero.cells.toArray (0,0) _ rfl R3 Tryz.underlying48 rfl HLZ.out) rfl ?_
    exact⟨by rw [Ap.leafOf_no (by rw [HE.out]; decide),HE.out]; rfl,K3⟩
 ·have hnf:Cm.isNm n = false:=by simpa using hnm
  have HE:Hid (Ap.cardErr R ts n = 7):=hid (by rw [Ap.cardErr,if_neg (λh=>by rw [Ap.known,hnf,Bool.false_and] at h; cases h)])
  have HNM:=hid (isname_calls10 n);rw [hnf] at HNM;clear hnf hnm
  as_aux_lemma=>
   go_upto_region 1 with fail
   refine wp_region_lit ?_;refine wW λK hK=>?_;go_simp;apply hK;clear hK K;refine wW λK hK=>?_;go_simp;go_at_call 52
   refine(HNM.out _).mono ?_;rintro e w9 ⟨rfl,h9⟩;subst w9;apply hK;clear hK K;iterate 2 (refine wW λK hK=>?_;go_simp;apply hK;clear hK K)
   (iterate 7 (refine @wpList_skip _ _ _ _ _ _ _ ?_ ?_;kernel_rfl;simp only [Act.put,sA,sB,sC]));refine wW λK hK=>?_;go_simp;apply hK;clear hK K
   go_upto_region 2 with fail
   refine wp_region_lit ?_;refine @wpL_build0 _ _ _ _ _ _ _ ?_ 48 rfl _ (build_leaf0 _) ?_;kernel_rfl
   simp only [Act.put,sA,sB,sC];refine wpList_store_row rfl 48 _ _ rfl rb Lf.zero.cells.toArray rfl rfl 48 Lf.zero.cells.toArray R1.out HLZ.out rfl (all_oneCell_toArray Lf.zero.cells_one) ?_
   simp only [Act.put];refine wW λK hK=>?_;go_simp;apply hK;clear hK K;have R3:=setRow_heap w1 rb _ Lf.zero.cells.toArray _ _ R1.out;have K3:Kept w.heap.size w.heap.size w (w1.setRow rb Lf.zero.cells.toArray):=kept_setRow10 K1.out rb (by rw [HRB.out]; exact Nat.le_refl _) Lf.zero.cells.toArray
   generalize w1.setRow rb Lf.zero.cells.toArray = w3 at R3 K3 |-;go_wp2;refine bodyPost_ret (results_row2 rfl _ _ rb 48 Lf.zero.cells.toArray (0,0) _ rfl R3 Tryz.underlying48 rfl HLZ.out) rfl ?_
   exact⟨by rw [Ap.leafOf_no (by rw [HE.out]; decide),HE.out]; rfl,K3⟩
theorem refcard_calls10 (rv:Value)(ts:List Int)(R:List Pn)(n:Int)(w:World)(hR:Pns w rv R)(h64:ts.length = 64)(hn:R.length<=1000)(hrc:∀ p∈R,p.cards.length<=1000):
  Calls Tryz.prog 40 #[.agg (icells ts).toArray,rv,.int .i64 n] w λe w'=>e = .returned (.tuple #[.agg (cdCells (Ap.cardOf R ts n)).toArray,.int .i64 (Ap.cardErr R ts n)])/\Kept w.heap.size w.heap.size w w':=by
 have hRs:=hR.shape;obtain⟨rad,rc,rfl⟩:=hRs;obtain⟨rn,hrn⟩:∃ rn,rn = R.length:=⟨_,rfl⟩;have hrn9:(rn:Int)<=1000:=by omega
 have HRN:=hid hrn;rw [<- hrn];have HR:=hid hR;have H64:=hid h64;have HRC:=hid hrc;obtain⟨TD,hTD⟩:∃ D,D = (icells ts).toArray:=⟨_,rfl⟩;rw [<- hTD];have HTD:=hid hTD;have HCZ:=hid (cardInfo (cs:=(cdCells (Tt.z32,Tt.z32)).toArray) rfl);clear hrn hR hn h64 hrc hTD
 go_enter Tryz.func40,Tryz.ntmps40
 go_upto_region 0 with fail
 refine wp_region_lit ?_;refine wW λK hK=>?_;go_simp;apply hK;clear hK K;refine @wpL_alloc _ _ _ _ _ _ _ _ ?_ 50 rfl _ (alloc_card _) ?_;kernel_rfl
 simp only [Act.put,sA,sB,sC];have k1:Kept w.heap.size w.heap.size w ((w.alloc (.cells TD 27)).alloc (.cells (cdCells (Tt.z32,Tt.z32)).toArray 50)):=((Kept.refl _ _ _).alloc (Nat.le_refl _) _).alloc (by simp) _
 have t1:((w.alloc (.cells TD 27)).alloc (.cells (cdCells (Tt.z32,Tt.z32)).toArray 50)).heap[w.heap.size]? = some (.cells TD 27 (0,0)):=by
  rw [heap_alloc_old _ _ (by simp)]
  exact heap_new _ _
 have r1:=heap_new (w.alloc (.cells TD 27)) (.cells (cdCells (Tt.z32,Tt.z32)).toArray 50)
 have z0:(w.alloc (.cells TD 27)).heap.size = w.heap.size + 1:=by simp
 rw [z0] at r1
 (try rw [z0])
 clear z0;generalize (w.alloc (.cells TD 27)).alloc (.cells (cdCells (Tt.z32,Tt.z32)).toArray 50) = w1 at k1 t1 r1 |-
 obtain⟨tb,htb⟩:∃ n,n = w.heap.size:=⟨_,rfl⟩;obtain⟨rb,hrb⟩:∃ n,n = w.heap.size + 1:=⟨_,rfl⟩;rw [<- hrb] at r1
 (try rw [<- hrb])
 rw [<- htb] at t1
 (try rw [<- htb])
 have HRB:=hid (show w.heap.size<=rb by omega)
 have K1:=hid k1;have R1:=hid r1;have T1:=hid t1;clear htb hrb k1 r1 t1;refine wW λK hK=>?_;go_simp;apply hK;clear hK K
 by_cases h1:n < 1
 ·have HE:Hid (Ap.cardErr R ts n = 7):=hid (by rw [Ap.cardErr,if_neg (λh=>by have:=Ap.known_iff.1 h; have:=HRN.out; omega)])
  as_aux_lemma=>
   go_upto_region 1 with fail
   refine wp_region_lit ?_;iterate 3 (refine wW λK hK=>?_;go_simp;apply hK;clear hK K)
   (iterate 2 (refine @wpList_skip _ _ _ _ _ _ _ ?_ ?_;kernel_rfl;simp only [Act.put,sA,sB,sC]));iterate 2 (refine wW λK hK=>?_;go_simp;apply hK;clear hK K)
   (iterate 4 (refine @wpList_skip _ _ _ _ _ _ _ ?_ ?_;kernel_rfl;simp only [Act.put,sA,sB,sC]));refine wW λK hK=>?_;go_simp;apply hK;clear hK K
   go_upto_region 2 with fail
   refine wp_region_lit ?_;refine @wpL_build0 _ _ _ _ _ _ _ ?_ 50 rfl _ (build_card0 _) ?_;kernel_rfl
   simp only [Act.put,sA,sB,sC];refine wpList_store_row rfl 50 _ _ rfl rb (cdCells (Tt.z32,Tt.z32)).toArray rfl rfl 50 (cdCells (Tt.z32,Tt.z32)).toArray R1.out HCZ.out rfl (all_oneCell_toArray (cdCells_one _)) ?_
   simp only [Act.put];refine wW λK hK=>?_;go_simp;apply hK;clear hK K;have R3:=setRow_heap w1 rb _ (cdCells (Tt.z32,Tt.z32)).toArray _ _ R1.out;have K3:Kept w.heap.size w.heap.size w (w1.setRow rb (cdCells (Tt.z32,Tt.z32)).toArray):=kept_setRow10 K1.out rb HRB.out (cdCells (Tt.z32,Tt.z32)).toArray;generalize w1.setRow rb (cdCells (Tt.z32,Tt.z32)).toArray = w3 at R3 K3 |-;go_wp2;refine bodyPost_ret (results_row2 rfl _ _ rb 50 (cdCells (Tt.z32,Tt.z32)).toArray (0,0) _ rfl R3 Tryz.underlying50 rfl HCZ.out) rfl ?_
   exact⟨by rw [Ap.cardOf_no (by rw [HE.out]; decide),HE.out]; rfl,K3⟩
 ·by_cases h2:n > 64
  ·have HE:Hid (Ap.cardErr R ts n = 7):=hid (by rw [Ap.cardErr,if_neg (λh=>by have:=Ap.known_iff.1 h; have:=HRN.out; omega)])
   as_aux_lemma=>
    go_upto_region 1 with fail
    refine wp_region_lit ?_;iterate 7 (refine wW λK hK=>?_;go_simp;apply hK;clear hK K)
    (iterate 4 (refine @wpList_skip _ _ _ _ _ _ _ ?_ ?_;kernel_rfl;simp only [Act.put,sA,sB,sC]));refine wW λK hK=>?_;go_simp;apply hK;clear hK K
    go_upto_region 2 with fail
    refine wp_region_lit ?_;refine @wpL_build0 _ _ _ _ _ _ _ ?_ 50 rfl _ (build_card0 _) ?_;kernel_rfl
    simp only [Act.put,sA,sB,sC];refine wpList_store_row rfl 50 _ _ rfl rb (cdCells (Tt.z32,Tt.z32)).toArray rfl rfl 50 (cdCells (Tt.z32,Tt.z32)).toArray R1.out HCZ.out rfl (all_oneCell_toArray (cdCells_one _)) ?_
    simp only [Act.put];refine wW λK hK=>?_;go_simp;apply hK;clear hK K;have R3:=setRow_heap w1 rb _ (cdCells (Tt.z32,Tt.z32)).toArray _ _ R1.out;have K3:Kept w.heap.size w.heap.size w (w1.setRow rb (cdCells (Tt.z32,Tt.z32)).toArray):=kept_setRow10 K1.out rb HRB.out (cdCells (Tt.z32,Tt.z32)).toArray;generalize w1.setRow rb (cdCells (Tt.z32,Tt.z32)).toArray = w3 at R3 K3 |-;go_wp2;refine bodyPost_ret (results_row2 rfl _ _ rb 50 (cdCells (Tt.z32,Tt.z32)).toArray (0,0) _ rfl R3 Tryz.underlying50 rfl HCZ.out) rfl ?_
    exact⟨by rw [Ap.cardOf_no (by rw [HE.out]; decide),HE.out]; rfl,K3⟩
  ·obtain⟨k,rfl⟩:∃ k:Nat,n = (k:Int) + 1:=⟨(n - 1).toNat,by omega⟩
   have hk:k < 64:=by omega
   have hki:(k:Int) < 64:=by omega
   by_cases hkn:k < rn
   ·have hng:¬ (k:Int) + 1 > (rn:Int):=by omega
    have hkr:k < R.length:=by rw [<- HRN.out]; exact hkn
    as_aux_lemma=>
     go_upto_region 1 with fail
     refine wp_region_lit ?_;iterate 12 (refine wW λK hK=>?_;go_simp;apply hK;clear hK K)
     clear hng;have hP:=HR.out;obtain⟨rad',rg,ro,rc',hsl,hcell⟩:=hP;rw [<- HRN.out] at hsl;injection hsl with h1 h2 h3
     subst h1 h3;clear h2;obtain⟨had,hrg,hver,cv,hrow,hcd⟩:=hcell k hkr;subst had;obtain⟨p,hp⟩:∃ p,p = R[k]:=⟨_,rfl⟩;rw [<- hp] at hver hrow hcd
     have HP:=hid (show Ap.person R ((k:Int) + 1) = p by
      rw [Ap.person,show((k:Int) + 1).toNat - 1 = k by omega,List.getD_eq_getElem?_getD,List.getElem?_eq_getElem hkr,Option.getD_some,hp])
     have HPC:=hid (show p.cards.length<=1000 from HRC.out p (by rw [hp]; exact List.getElem_mem hkr))
     have hkt:k < ts.length:=by rw [H64.out]; exact hk
     obtain⟨c,hc⟩:∃ c,c = ts[k]:=⟨_,rfl⟩
     have HCT:=hid (show Ap.count ts ((k:Int) + 1) = c by
      rw [Ap.count,show((k:Int) + 1).toNat - 1 = k by omega,List.getD_eq_getElem?_getD,List.getElem?_eq_getElem hkt,Option.getD_some,hc])
     obtain⟨cad,cg,co,cc,rfl,hcc⟩:=hcd;obtain⟨cn,hcn⟩:∃ cn,cn = p.cards.length:=⟨_,rfl⟩;have hcn9:(cn:Int)<=1000:=by have:=HPC.out; omega
     have HCN:=hid hcn;rw [<- hcn] at hrow;have HCC:=hid hcc
     have htc:w1.cell? ⟨tb,k,none⟩ = some (.int .i64 c):=by
      have h:=T1.out;rw [HTD.out] at h;have h2:=row_part10 h [] (icells ts) [] (by simp) 0 rfl k (.int .i64 c) (by rw [hc]; exact icells_at hkt)
      rwa [Nat.zero_add] at h2
     have hpc:=person_cards (range_kept10 hrow hrg K1.out) hver;have HKR:=hid hkr;have hrn0:(k:Int) < (rn:Int):=by omega
     clear hcell hver hrow hp hc hcn hcc hrg hkr hkt;have HKW:=hid (show IntKind.i64.wrap (k:Int) = (k:Int) from wrap_small _ (by omega) (by omega))
     have hk0:¬ (k:Int) < 0:=by omega
     go_upto_region 3 with fail
     refine wp_region_lit ?_;iterate 2 (refine wW λK hK=>?_;go_simp;apply hK;clear hK K)
     rw [HKW.out];refine wW λK hK=>?_;go_simp;apply hK;clear hK K;refine wLk 3 (.tmp 24) rfl (tb) (k) rfl (.int .i64 c) (load_int10 htc) ?_
     simp only [Act.put,sA,sB,sC];refine wW λK hK=>?_;go_simp;apply hK;clear hK K;clear htc
     by_cases hc0:c < 0
     ·have HE:Hid (Ap.cardErr R ts ((k:Int) + 1) = 10):=hid (by
       rw [Ap.cardErr,if_pos (Ap.known_iff.2 (by have:=HKR.out; omega)),if_neg (λh=>by have:=(Ap.left_iff.1 h).1; rw [HCT.out] at this; omega)])
      as_aux_lemma=>
       go_upto_region 4 with fail
       refine wp_region_lit ?_;iterate 3 (refine wW λK hK=>?_;go_simp;apply hK;clear hK K)
       (iterate 9 (refine @wpList_skip _ _ _ _ _ _ _ ?_ ?_;kernel_rfl;simp only [Act.put,sA,sB,sC]));refine wW λK hK=>?_;go_simp;apply hK;clear hK K
       go_upto_region 5 with fail
       refine wp_region_lit ?_;refine @wpL_build0 _ _ _ _ _ _ _ ?_ 50 rfl _ (build_card0 _) ?_;kernel_rfl
       simp only [Act.put,sA,sB,sC];refine wpList_store_row rfl 50 _ _ rfl rb (cdCells (Tt.z32,Tt.z32)).toArray rfl rfl 50 (cdCells (Tt.z32,Tt.z32)).toArray R1.out HCZ.out rfl (all_oneCell_toArray (cdCells_one _)) ?_
       simp only [Act.put];refine wW λK hK=>?_;go_simp;apply hK;clear hK K;have R3:=setRow_heap w1 rb _ (cdCells (Tt.z32,Tt.z32)).toArray _ _ R1.out;have K3:Kept w.heap.size w.heap.size w (w1.setRow rb (cdCells (Tt.z32,Tt.z32)).toArray):=kept_setRow10 K1.out rb HRB.out (cdCells (Tt.z32,Tt.z32)).toArray;generalize w1.setRow rb (cdCells (Tt.z32,Tt.z32)).toArray = w3 at R3 K3 |-;go_wp2;refine bodyPost_ret (results_row2 rfl _ _ rb 50 (cdCells (Tt.z32,Tt.z32)).toArray (0,0) _ rfl R3 Tryz.underlying50 rfl HCZ.out) rfl ?_
       exact⟨by rw [Ap.cardOf_no (by rw [HE.out]; decide),HE.out]; rfl,K3⟩
     ·by_cases hcl:c < (cn:Int)
      ·obtain⟨j,rfl⟩:∃ j:Nat,c = (j:Int):=⟨c.toNat,by omega⟩
       have hge:¬ (j:Int)>=(cn:Int):=by omega
       have hjc:j < p.cards.length:=by rw [<- HCN.out]; omega
       obtain⟨had,hcg,hok,hcr⟩:=HCC.out j hjc;subst had;obtain⟨cd,hcd⟩:∃ d,d = p.cards[j]:=⟨_,rfl⟩;rw [<- hcd] at hok hcr
       have HE:Hid (Ap.cardErr R ts ((k:Int) + 1) = 0):=hid (by
        rw [Ap.cardErr,if_pos (Ap.known_iff.2 (by have:=HKR.out; omega)),if_pos (Ap.left_iff.2 (by rw [HCT.out,HP.out,<- HCN.out]; omega))])
       have HLE:Hid (Ap.card R ts ((k:Int) + 1) = cd):=hid (by
        rw [Ap.card,HP.out,HCT.out,Int.toNat_natCast,List.getD_eq_getElem?_getD,List.getElem?_eq_getElem hjc,Option.getD_some,hcd])
       obtain⟨CDD,hCD⟩:∃ D,D = (cdCells cd).toArray:=⟨_,rfl⟩;have HLC:=hid (by rw [hCD]; exact load_card10 (range_kept10 hcr hcg K1.out) hok:(loadVar 50 ⟨cg,co + j * 64,none⟩).run Tryz.prog w1 = .ok (.agg CDD) w1)
       have HCS:=hid (show CDD.size = 64 by rw [hCD,List.size_toArray]; exact cdCells_length hok)
       have HCI:=hid (cardInfo HCS.out);have HCA:=hid (show CDD.all (·.oneCell') = true by rw [hCD]; exact all_oneCell_toArray (cdCells_one cd))
       have HCD:=hid hCD;have hjl:(j:Int) < (cn:Int):=hcl;clear hcr hok hcg hcd hCD hjc hcl hc0
       as_aux_lemma=>
        go_upto_region 4 with fail
        refine wp_region_lit ?_;iterate 7 (refine wW λK hK=>?_;go_simp;apply hK;clear hK K)
        rw [HKW.out];iterate 2 (refine wW λK hK=>?_;go_simp;apply hK;clear hK K)
        refine wLk 51 (.tmp 34) rfl (rg) (ro + k * 33 + 32) rfl (.slice (some ⟨cg,co,none⟩) cn cc) (load_slA hpc (.inr (.inl rfl))) ?_
        simp only [Act.put,sA,sB,sC];iterate 3 (refine wW λK hK=>?_;go_simp;apply hK;clear hK K)
        go_upto_region 6 with fail
        refine wp_region_lit ?_;iterate 3 (refine wW λK hK=>?_;go_simp;apply hK;clear hK K)
        rw [HKW.out];iterate 2 (refine wW λK hK=>?_;go_simp;apply hK;clear hK K)
        refine wLk 51 (.tmp 44) rfl (rg) (ro + k * 33 + 32) rfl (.slice (some ⟨cg,co,none⟩) cn cc) (load_slA hpc (.inr (.inl rfl))) ?_
        simp only [Act.put,sA,sB,sC];iterate 2 (refine wW λK hK=>?_;go_simp;apply hK;clear hK K)
        refine wLk 50 (.tmp 47) rfl (cg) (co + j * 64) rfl (.agg CDD) (HLC.out) ?_
        simp only [Act.put,sA,sB,sC];refine wpList_store_row rfl 50 _ _ rfl rb CDD rfl rfl 50 (cdCells (Tt.z32,Tt.z32)).toArray R1.out HCI.out (by rw [HCS.out]; rfl) HCA.out ?_
        simp only [Act.put];refine wW λK hK=>?_;go_simp;apply hK;clear hK K;have R3:=setRow_heap w1 rb _ CDD _ _ R1.out;have K3:Kept w.heap.size w.heap.size w (w1.setRow rb CDD):=kept_setRow10 K1.out rb HRB.out CDD;generalize w1.setRow rb CDD = w3 at R3 K3 |-;go_wp2;refine bodyPost_ret (results_row2 rfl _ _ rb 50 CDD (0,0) _ rfl R3 Tryz.underlying50 rfl HCI.out) rfl ?_
        exact⟨by rw [Ap.cardOf_yes HE.out,HE.out,HLE.out,<- HCD.out]; rfl,K3⟩
      ·have hge:c>=(cn:Int):=by omega
       have HE:Hid (Ap.cardErr R ts ((k:Int) + 1) = 10):=hid (by
        rw [Ap.cardErr,if_pos (Ap.known_iff.2 (by have:=HKR.out; omega)),if_neg (λh=>by have:=(Ap.left_iff.1 h).2; rw [HCT.out,HP.out,<- HCN.out] at this; omega)])
       clear hcl
       as_aux_lemma=>
        go_upto_region 4 with fail
        refine wp_region_lit ?_;iterate 7 (refine wW λK hK=>?_;go_simp;apply hK;clear hK K)
        rw [HKW.out];iterate 2 (refine wW λK hK=>?_;go_simp;apply hK;clear hK K)
        refine wLk 51 (.tmp 34) rfl (rg) (ro + k * 33 + 32) rfl (.slice cad cn cc) (load_slA hpc (.inr (.inl rfl))) ?_
        simp only [Act.put,sA,sB,sC];iterate 3 (refine wW λK hK=>?_;go_simp;apply hK;clear hK K)
        go_upto_region 5 with fail
        refine wp_region_lit ?_;refine @wpL_build0 _ _ _ _ _ _ _ ?_ 50 rfl _ (build_card0 _) ?_;kernel_rfl
        simp only [Act.put,sA,sB,sC];refine wpList_store_row rfl 50 _ _ rfl rb (cdCells (Tt.z32,Tt.z32)).toArray rfl rfl 50 (cdCells (Tt.z32,Tt.z32)).toArray R1.out HCZ.out rfl (all_oneCell_toArray (cdCells_one _)) ?_
        simp only [Act.put];refine wW λK hK=>?_;go_simp;apply hK;clear hK K;have R3:=setRow_heap w1 rb _ (cdCells (Tt.z32,Tt.z32)).toArray _ _ R1.out;have K3:Kept w.heap.size w.heap.size w (w1.setRow rb (cdCells (Tt.z32,Tt.z32)).toArray):=kept_setRow10 K1.out rb HRB.out (cdCells (Tt.z32,Tt.z32)).toArray;generalize w1.setRow rb (cdCells (Tt.z32,Tt.z32)).toArray = w3 at R3 K3 |-;go_wp2;refine bodyPost_ret (results_row2 rfl _ _ rb 50 (cdCells (Tt.z32,Tt.z32)).toArray (0,0) _ rfl R3 Tryz.underlying50 rfl HCZ.out) rfl ?_
        exact⟨by rw [Ap.cardOf_no (by rw [HE.out]; decide),HE.out]; rfl,K3⟩
   ·have hgt:(k:Int) + 1 > (rn:Int):=by omega
    have HE:Hid (Ap.cardErr R ts ((k:Int) + 1) = 7):=hid (by rw [Ap.cardErr,if_neg (λh=>by have:=Ap.known_iff.1 h; have:=HRN.out; omega)])
    clear hkn
    as_aux_lemma=>
     go_upto_region 1 with fail
     refine wp_region_lit ?_;iterate 12 (refine wW λK hK=>?_;go_simp;apply hK;clear hK K)
     go_upto_region 2 with fail
     refine wp_region_lit ?_;refine @wpL_build0 _ _ _ _ _ _ _ ?_ 50 rfl _ (build_card0 _) ?_;kernel_rfl
     simp only [Act.put,sA,sB,sC];refine wpList_store_row rfl 50 _ _ rfl rb (cdCells (Tt.z32,Tt.z32)).toArray rfl rfl 50 (cdCells (Tt.z32,Tt.z32)).toArray R1.out HCZ.out rfl (all_oneCell_toArray (cdCells_one _)) ?_
     simp only [Act.put];refine wW λK hK=>?_;go_simp;apply hK;clear hK K;have R3:=setRow_heap w1 rb _ (cdCells (Tt.z32,Tt.z32)).toArray _ _ R1.out;have K3:Kept w.heap.size w.heap.size w (w1.setRow rb (cdCells (Tt.z32,Tt.z32)).toArray):=kept_setRow10 K1.out rb HRB.out (cdCells (Tt.z32,Tt.z32)).toArray;generalize w1.setRow rb (cdCells (Tt.z32,Tt.z32)).toArray = w3 at R3 K3 |-;go_wp2;refine bodyPost_ret (results_row2 rfl _ _ rb 50 (cdCells (Tt.z32,Tt.z32)).toArray (0,0) _ rfl R3 Tryz.underlying50 rfl HCZ.out) rfl ?_
     exact⟨by rw [Ap.cardOf_no (by rw [HE.out]; decide),HE.out]; rfl,K3⟩
theorem choose_ltA {α:Type} [Inhabited α] {n:Nat}{p:Nat->α->Prop}(h:∀ i,i < n->∃ f,p i f):∃ f:Nat->α,∀ i,i < n->p i (f i):=by
 refine⟨λi=>if hi:i < n then (h i hi).choose else default,λi hi=>?_⟩
 simp only [hi,dif_pos];exact(h i hi).choose_spec
theorem append_leavesN (w:World)(v:Value)(L:List Lf)(hv:Lvs w v L)(hn:L.length<=100000):
  ∃ v' w',(Builtin.append_ #[22,22] 22 #[.slice none 0 0,v]).run Tryz.prog w = .ok v' w'/\OwnC w' w.heap.size 48 97 v' (L.map Lf.cells)/\w.grownBy w' none:=by
 obtain⟨ad,g,o,c,rfl,h1,_⟩:=hv;obtain⟨i,z,hi,hz,hzs,hs,hby⟩:=full_of leafFullAll
 by_cases hL:L = []
 ·subst hL
  refine⟨.slice none 0 0,w,?_,OwnC.nil _ _ _ _,⟨rfl,rfl,rfl,Nat.le_refl _,λ_ _ _=>rfl⟩⟩
  cases ad <;> simp [loadCells,loadCellsFrom,Builtin.append_,run_underlying Tryz.underlying22,sizeOf,typeInfo,hi,hs,Builtin.lenOf,Builtin.firstCells,Result.andThen]
 ·have hl0:0 < L.length:=List.length_pos_iff.2 hL
  obtain⟨rfl,_⟩:=h1 0 hl0
  obtain⟨v',w',e1,e2,e3⟩:=append_leaves w w.heap.size (.slice none 0 0) [] (OwnC.nil _ _ _ _) (Nat.le_refl _) g o c (L.map Lf.cells) (λx hx=>by
   obtain⟨l,hl,rfl⟩:=List.mem_map.1 hx;obtain⟨i,hi,rfl⟩:=List.getElem_of_mem hl;exact⟨Lf.cells_length (h1 i hi).2.2.1,Lf.cells_one _⟩) (λi hi=>by
   rw [List.getElem_map]
   exact(h1 i (by simpa using hi)).2.2.2) (by simp; omega)
  rw [List.length_map] at e1;rw [List.nil_append] at e2;exact⟨v',w',e1,e2,e3⟩
theorem append_parentsN (w:World)(v:Value)(P:List Pr)(hv:Pts w v P)(hn:P.length<=100000):
  ∃ v' w' SL,SL.length = P.length/\(Builtin.append_ #[23,23] 23 #[.slice none 0 0,v]).run Tryz.prog w = .ok v' w'/\OwnC w' w.heap.size 68 66 v' (List.zipWith Pr.cells P SL)/\w.grownBy w' none:=by
 obtain⟨ad,g,o,c,rfl,h1,_⟩:=hv;obtain⟨i,z,hi,hz,hzs,hs,hby⟩:=full_of parentFullAll
 by_cases hL:P = []
 ·subst hL
  refine⟨.slice none 0 0,w,[],rfl,?_,OwnC.nil _ _ _ _,⟨rfl,rfl,rfl,Nat.le_refl _,λ_ _ _=>rfl⟩⟩
  cases ad <;> simp [loadCells,loadCellsFrom,Builtin.append_,run_underlying Tryz.underlying23,sizeOf,typeInfo,hi,hs,Builtin.lenOf,Builtin.firstCells,Result.andThen]
 ·have hl0:0 < P.length:=List.length_pos_iff.2 hL
  obtain⟨rfl,_⟩:=h1 0 hl0
  obtain⟨f,hf⟩:=choose_ltA (n:=P.length) (p:=λi s=>∀ hi:i < P.length,w.rangeAt g (o + i * 66) (P[i].cells s)/\∃ ad n c,s = .slice ad n c) (λi hi=>by
   obtain⟨_,_,_,sl,hr,hn⟩:=h1 i hi;obtain⟨ad,c,g2,o2,rfl,_⟩:=hn
   exact⟨_,λ_=>⟨hr,_,_,_,rfl⟩⟩)
  have hzl:(List.zipWith Pr.cells P ((List.range P.length).map f)).length = P.length:=by simp
  obtain⟨v',w',e1,e2,e3⟩:=append_parents w w.heap.size (.slice none 0 0) [] (OwnC.nil _ _ _ _) (Nat.le_refl _) g o c (List.zipWith Pr.cells P ((List.range P.length).map f)) (λx hx=>by
   obtain⟨i,hi,rfl⟩:=List.getElem_of_mem hx;have hi2:i < P.length:=by rw [hzl] at hi; exact hi
   rw [List.getElem_zipWith,List.getElem_map,List.getElem_range];obtain⟨_,ad,n,c,hs⟩:=hf i hi2 hi2;rw [hs];exact⟨Pr.cells_length (h1 i hi2).2.2.1 _,Pr.cells_one _ _ _ _⟩) (λi hi=>by
   have hi2:i < P.length:=by rw [hzl] at hi; exact hi
   rw [List.getElem_zipWith,List.getElem_map,List.getElem_range]
   exact(hf i hi2 hi2).1) (by rw [hzl]; simp; omega)
  rw [hzl] at e1;rw [List.nil_append] at e2;exact⟨v',w',_,by simp,e1,e2,e3⟩
structure Cpy (B:Nat->Prop) (w:World) (lv pv:Value) (L:List Lf) (P:List Pr) (SL:List Value) (m:Nat):Prop where
 lok:∀ l∈L,l.Ok
 pok:∀ p∈P,p.Ok
 lo:OwnC w 0 48 97 lv (L.map Lf.cells)
 len:SL.length = P.length
 po:OwnC w 0 68 66 pv (List.zipWith Pr.cells P SL)
 so:∀ (i:Nat) (p:Pr) (s:Value),i < m->P[i]? = some p->SL[i]? = some s->Ints w 0 s p.loose
 dlp:Dif lv.ownBlock pv.ownBlock
 dls:∀ (i:Nat) (s:Value),i < m->SL[i]? = some s->Dif lv.ownBlock s.ownBlock
 dps:∀ (i:Nat) (s:Value),i < m->SL[i]? = some s->Dif pv.ownBlock s.ownBlock
 dss:∀ (i j:Nat) (s t:Value),i < m->j < m->i≠j->SL[i]? = some s->SL[j]? = some t->Dif s.ownBlock t.ownBlock
 ol:∀ g,lv.ownBlock = some g->¬ B g
 op:∀ g,pv.ownBlock = some g->¬ B g
 os:∀ (i:Nat) (s:Value),i < m->SL[i]? = some s->∀ g,s.ownBlock = some g->¬ B g
 bnd:∀ k,B k->k < w.heap.size
section
variable {B:Nat->Prop} {w w1:World} {lv pv:Value} {L:List Lf} {P:List Pr} {SL:List Value} {m:Nat}
theorem Cpy.mine (h:Cpy B w lv pv L P SL P.length):Mine B w lv pv L P SL where
 lok:=h.lok
 pok:=h.pok
 lo:=h.lo
 len:=h.len
 po:=h.po
 so:=λi p s hp hs=>h.so i p s (List.getElem?_eq_some_iff.1 hp).1 hp hs
 dlp:=h.dlp
 dls:=λs hs=>by
  obtain⟨i,hi,rfl⟩:=List.getElem_of_mem hs;exact h.dls i _ (by rw [<- h.len]; exact hi) (List.getElem?_eq_getElem hi)
 dps:=λs hs=>by
  obtain⟨i,hi,rfl⟩:=List.getElem_of_mem hs;exact h.dps i _ (by rw [<- h.len]; exact hi) (List.getElem?_eq_getElem hi)
 dss:=λi j s t hij hs ht=>h.dss i j s t (by rw [<- h.len]; exact(List.getElem?_eq_some_iff.1 hs).1) (by rw [<- h.len]; exact(List.getElem?_eq_some_iff.1 ht).1) hij hs ht
 ol:=h.ol
 op:=h.op
 os:=λs hs=>by
  obtain⟨i,hi,rfl⟩:=List.getElem_of_mem hs;exact h.os i _ (by rw [<- h.len]; exact hi) (List.getElem?_eq_getElem hi)
 bnd:=h.bnd
theorem Cpy.grown (h:Cpy B w lv pv L P SL m)(g:w.grownBy w1 none):Cpy B w1 lv pv L P SL m:=
 { h with
   lo:=h.lo.grown g (own_ne_none _)
   po:=h.po.grown g (own_ne_none _)
   so:=λi p s hi hp hs=>World.ownsRow.kept (h.so i p s hi hp hs) g (own_ne_none _)
   bnd:=λk hk=>Nat.lt_of_lt_of_le (h.bnd k hk) g.size }
theorem Cpy.start (hlok:∀ l∈L,l.Ok)(hpok:∀ p∈P,p.Ok)(hlo:OwnC w 0 48 97 lv (L.map Lf.cells))(hlen:SL.length = P.length)(hpo:OwnC w 0 68 66 pv (List.zipWith Pr.cells P SL))(hd:Dif lv.ownBlock pv.ownBlock)(hol:∀ g,lv.ownBlock = some g->¬ B g)(hop:∀ g,pv.ownBlock = some g->¬ B g)(hb:∀ k,B k->k < w.heap.size):Cpy B w lv pv L P SL 0:=
 ⟨hlok,hpok,hlo,hlen,hpo,λi _ _ h=>absurd h (Nat.not_lt_zero i),hd,λi _ h=>absurd h (Nat.not_lt_zero i),λi _ h=>absurd h (Nat.not_lt_zero i),λi _ _ _ h=>absurd h (Nat.not_lt_zero i),hol,hop,λi _ h=>absurd h (Nat.not_lt_zero i),hb⟩
theorem Cpy.next {g n cap:Nat}(h:Cpy B w lv (.slice (some ⟨g,0,none⟩) n cap) L P SL m)(hm:m < P.length)(s:Value)(gr:w.grownBy w1 none)(hs:Ints w1 w.heap.size s P[m].loose):
  Cpy B (w1.setCell ⟨g,m * 66 + 65,none⟩ s) lv (.slice (some ⟨g,0,none⟩) n cap) L P (SL.set m s) (m + 1)/\w1.grownBy (w1.setCell ⟨g,m * 66 + 65,none⟩ s) (some g):=by
 obtain⟨sad,sn,sc,rfl⟩:=one_slice hs;have h1:=h.grown gr;have hq:m < SL.length:=by rw [h.len]; exact hm
 have hzl:(List.zipWith Pr.cells P SL).length = P.length:=by rw [List.length_zipWith,h.len,Nat.min_self]
 have gs:=grown_set w1 g (m * 66 + 65) (.slice sad sn sc);have hgw:g < w.heap.size:=(h.po.2.lt g rfl).2;have hsw:∀ k,(Value.slice sad sn sc).ownBlock = some k->w.heap.size<=k:=λk hk=>(World.ownsRow.lt hs k hk).1
 have hdif:∀ a:Option Nat,(∀ k,a = some k->k < w.heap.size)->Dif a (Value.slice sad sn sc).ownBlock:=λa ha=>by
  cases a with
  | none=>exact .inl rfl
  | some a=>exact .inr λe=>by have:=ha a rfl; have:=hsw a e.symm; omega
 have hgn:(Value.slice sad sn sc).ownBlock = none\/(Value.slice sad sn sc).ownBlock≠some g:=.inr λe=>by have:=hsw g e; omega
 have hne:∀ x:Value,Dif (some g) x.ownBlock->x.ownBlock = none\/x.ownBlock≠some g:=λx hx=>.inr λe=>hx.elim (λe2=>nomatch e2) (λe2=>e2 e.symm)
 have po1:=h1.po;have hm0:=hm;rw [<- hzl] at hm;obtain⟨ad,g2,c2,hv2,hc2,_⟩:=po1.at;have hnn:n = (List.zipWith Pr.cells P SL).length:=by injection hv2
 subst hnn;obtain⟨q1,q2,_⟩:=OwnC.part po1 m hm 65 [.slice sad sn sc] (by simp) (λy hy=>by rw [List.mem_singleton.1 hy]; rfl)
 have hrow:putList (List.zipWith Pr.cells P SL)[m] 65 [.slice sad sn sc] = Pr.cells P[m] (.slice sad sn sc):=by
  rw [List.getElem_zipWith];exact pr_set (h.pok _ (List.getElem_mem hm0)) _ _
 rw [hrow,<- zip_set,List.set_getElem_self] at q1;refine⟨?_,gs⟩
 have hlt:∀ (j:Nat) (t:Value),j < m->SL[j]? = some t->∀ k,t.ownBlock = some k->k < w.heap.size:=λj t hj ht k e=>
  (World.ownsRow.lt (h.so j _ t hj (List.getElem?_eq_getElem (by omega)) ht) k e).2
 exact { h1 with
  lo:=h1.lo.grown gs (hne lv h.dlp.symm)
  len:=by rw [List.length_set,h.len]
  po:=q1
  so:=λj q t hj hqq ht=>by
   by_cases hjm:m = j
   ·subst hjm
    rw [List.getElem?_set_self hq] at ht;rw [List.getElem?_eq_getElem hm0] at hqq
    cases hqq
    cases ht
    exact World.ownsRow.kept (owns_lower hs (Nat.zero_le _)) gs hgn
   ·rw [List.getElem?_set_ne hjm] at ht
    exact World.ownsRow.kept (h1.so j q t (by omega) hqq ht) gs (hne t (h.dps j t (by omega) ht))
  dls:=λj t hj ht=>by
   by_cases hjm:m = j
   ·subst hjm
    rw [List.getElem?_set_self hq] at ht
    cases ht
    exact hdif _ (λk hk=>(h.lo.2.lt k hk).2)
   ·rw [List.getElem?_set_ne hjm] at ht
    exact h.dls j t (by omega) ht
  dps:=λj t hj ht=>by
   by_cases hjm:m = j
   ·subst hjm
    rw [List.getElem?_set_self hq] at ht
    cases ht
    exact hdif _ (λk hk=>(h.po.2.lt k hk).2)
   ·rw [List.getElem?_set_ne hjm] at ht
    exact h.dps j t (by omega) ht
  dss:=λa b x y ha hb hab hx hy=>by
   by_cases ha2:m = a
   ·subst ha2
    rw [List.getElem?_set_self hq] at hx;rw [List.getElem?_set_ne hab] at hy
    cases hx
    exact(hdif _ (hlt b y (by omega) hy)).symm
   ·rw [List.getElem?_set_ne ha2] at hx
    by_cases hb2:m = b
    ·subst hb2
     rw [List.getElem?_set_self hq] at hy
     cases hy
     exact hdif _ (hlt a x (by omega) hx)
    ·rw [List.getElem?_set_ne hb2] at hy
     exact h.dss a b x y (by omega) (by omega) hab hx hy
  os:=λj t hj ht k hk b=>by
   by_cases hjm:m = j
   ·subst hjm
    rw [List.getElem?_set_self hq] at ht
    cases ht
    have:=hsw k hk;have:=h.bnd k b
    omega
   ·rw [List.getElem?_set_ne hjm] at ht
    exact h.os j t (by omega) ht k hk b
  bnd:=λk hk=>Nat.lt_of_lt_of_le (h1.bnd k hk) gs.size }
end
theorem ownc_lower {w:World}{base base':Nat}{T:TypeId}{n:Nat}{v:Value}{R:List (List Value)}(h:OwnC w base T n v R)(hb:base'<=base):OwnC w base' T n v R:=⟨h.1,owns_lower h.2 hb⟩
theorem ownc_slice {w:World}{base:Nat}{T:TypeId}{n:Nat}{v:Value}{R:List (List Value)}(h:OwnC w base T n v R):∃ ad m c,v = .slice ad m c:=by
 obtain⟨_,_,_,rfl,_⟩:=h.at;exact⟨_,_,_,rfl⟩
theorem dif_new {w w':World}{base:Nat}{T T':TypeId}{n n':Nat}{v v':Value}{R R':List (List Value)}(h:OwnC w base T n v R)(h':OwnC w' w.heap.size T' n' v' R'):Dif v.ownBlock v'.ownBlock:=by
 cases hv:v.ownBlock with
 | none=>exact .inl rfl
 | some g=>exact .inr λe=>by have h1:=(h.2.lt g hv).2; have h2:=(h'.2.lt g e.symm).1; omega
theorem _root_.Go.World.grownBy.keptN {w w':World}(h:w.grownBy w' none):Kp w w':=⟨h.os,h.tape,h.output,h.size,λi hi _=>h.block i hi (λe=>nomatch e)⟩
theorem _root_.Go.World.grownBy.transN {w w1 w2:World}(h:w.grownBy w1 none)(k:w1.grownBy w2 none):w.grownBy w2 none:=⟨k.os.trans h.os,k.tape.trans h.tape,k.output.trans h.output,Nat.le_trans h.size k.size,λi hi e=>(k.block i (Nat.lt_of_lt_of_le hi h.size) e).trans (h.block i hi e)⟩
theorem tree_all_own {b1 b2:Nat}{T1 T2:TypeId}{n1 n2:Nat}{x y:Value}{R1 R2:List (List Value)}{u1 u2:World}(hx:OwnC u1 b1 T1 n1 x R1)(hy:OwnC u2 b2 T2 n2 y R2):(#[x,y]:Array Value).all (·.oneCell') = true:=by
 obtain⟨_,_,_,rfl,_⟩:=hx.at;obtain⟨_,_,_,rfl,_⟩:=hy.at;exact tree_all _ _ _ _ _ _
theorem run_store_cellA {P:Program}(w:World)(ty:TypeId)(b k:Nat)(v:Value)(ht:(w.cell? ⟨b,k,none⟩).isSome = true/\w.frozen? ⟨b,k,none⟩ = false)(hv:v.oneCell' = true)(hi:(P.info? ty).map (·.size) = some 1):(storeVar ty ⟨b,k,none⟩ v).run P w = .ok () (w.setCell ⟨b,k,none⟩ v):=by
 have hst:=run_storeCells_cells (P:=P) b k [v] 0 w (λj hj=>by
   obtain rfl:j = 0:=by simpa using hj
   simpa using ht.1) (λj hj=>by
   obtain rfl:j = 0:=by simpa using hj
   simpa using ht.2) (λx hx=>by rw [List.mem_singleton.1 hx]; exact hv)
 have hcs:v.cells = #[v]:=by cases v <;> first | rfl | cases hv
 cases hq:P.info? ty with
 | none=>simp [hq] at hi
 | some i=>
  have hs:i.size = 1:=by simpa [hq] using hi
  simp [storeVar,sizeOf,typeInfo,hq,hcs,hs,hst]
  rfl
theorem wp_store_cellA {P:Program}{o:Oper}{a:Act}{w:World}{Q:Exit->Act->World->Prop}{K:Act->World->Prop}(ty:TypeId)(x y:Operand)(ho:o.op = .store ty x y)(hd:o.dst = none)(b k:Nat)(v:Value)(hx:a.eval x = .pointer (some ⟨b,k,none⟩))(hy:a.eval y = v)
  (ht:(w.cell? ⟨b,k,none⟩).isSome = true/\w.frozen? ⟨b,k,none⟩ = false) (hv:v.oneCell' = true) (hi:(P.info? ty).map (·.size) = some 1) (hq:K a (w.setCell ⟨b,k,none⟩ v)):o.wp P a w K Q:=by
 have hrun:=run_store_cellA (P:=P) w ty b k v ht hv hi;unfold Oper.wp execOp;simp only [ho,hx,hy,Instr.storeAt,Instr.sureAddr,Sem.run_bind,Sem.run_pure,Result.andThen_ok,hrun];have hq2:K (a.put o.dst undef) (w.setCell ⟨b,k,none⟩ v):=by rw [hd]; exact hq
 exact hq2
structure CpSt (w1 u:World) (L:List Lf) (P:List Pr) (lv pv:Value) (SL:List Value) (gt:Nat):Prop where
 kp:Kp w1 u
 lo:OwnC u w1.heap.size 48 97 lv (L.map Lf.cells)
 po:OwnC u w1.heap.size 68 66 pv (List.zipWith Pr.cells P SL)
 dif:Dif lv.ownBlock pv.ownBlock
 row:u.heap[gt]? = some (.cells #[lv,pv] 25 (0,0))
 ge:w1.heap.size<=gt
 len:SL.length = P.length
 lg:lv.ownBlock≠some gt
 pg:pv.ownBlock≠some gt
theorem CpSt.cpy {w1 u:World}{L:List Lf}{P:List Pr}{lv pv:Value}{SL:List Value}{gt:Nat}(h:CpSt w1 u L P lv pv SL gt)(hlok:∀ l∈L,l.Ok)(hpok:∀ p∈P,p.Ok):Cpy (λk=>k < w1.heap.size\/k = gt) u lv pv L P SL 0:=
 Cpy.start hlok hpok (ownc_lower h.lo (Nat.zero_le _)) h.len (ownc_lower h.po (Nat.zero_le _)) h.dif
  (λg e b=>b.elim (λb=>by have:=(h.lo.2.lt g e).1; omega) (λb=>h.lg (by rw [e,b])))
  (λg e b=>b.elim (λb=>by have:=(h.po.2.lt g e).1; omega) (λb=>h.pg (by rw [e,b])))
  (λk b=>b.elim (λb=>Nat.lt_of_lt_of_le b h.kp.size) (λb=>by rw [b]; exact lt_of_block h.row))
theorem part_there {w:World}{g n cap:Nat}{R:List (List Value)}(h:OwnC w 0 68 66 (.slice (some ⟨g,0,none⟩) n cap) R)(i:Nat)(hi:i < R.length):(w.cell? ⟨g,i * 66 + 65,none⟩).isSome = true/\w.frozen? ⟨g,i * 66 + 65,none⟩ = false:=by
 obtain⟨ad,g2,c2,hv2,_,_⟩:=h.at;injection hv2 with e1 e2 e3
 subst e2;have h1:=OwnC.there h i hi 65 (by decide)
 exact h1
theorem results_row1A {P:Program}{fn:Func}{p:Tmp}{ty:TypeId}(h:fn.results = #[.cell p ty])(tmps:Array Value)(w:World)(g:Nat)(t:TypeId)(cs:Array Value)(fr:Nat × Nat)(d:TypeDesc)
  (hp:tmps.getD p undef = .pointer (some ⟨g,0,none⟩)) (hg:w.heap[g]? = some (.cells cs t fr))
  (hu:P.underlying ty = some d) (hd:(match d with | .struct _ | .array _ _=>true | _=>false) = true) (hi:(P.info? ty).map (·.size) = some cs.size) :
  (results fn tmps).run P w = .ok (.agg cs) w:=by
 have hp':tmps[p]?.getD undef = .pointer (some ⟨g,0,none⟩):=by simpa using hp
 simp [results,h,hp',asAddr,run_loadVar_row w g t ty cs fr d hg hu hd hi]
theorem copied_calls10 (lv pv:Value)(L:List Lf)(P:List Pr)(w:World)(hL:Lvs w lv L)(hP:Pts w pv P)(hn:L.length<=1000)(hp:P.length<=1000)(hpl:∀ p∈P,p.loose.length<=1000):
  Calls Tryz.prog 26 #[.agg #[lv,pv]] w λe w'=>∃ lv' pv',e = .returned (.agg #[lv',pv'])/\Kept w.heap.size w.heap.size w w'/\∃ SL,Mine (λk=>k < w.heap.size) w' lv' pv' L P SL:=by
 obtain⟨lad,lc,rfl⟩:=hL.shape;have hP2:=hP;obtain⟨pad,pg,po,pc,rfl,hpc,_⟩:=hP
 have hlok:∀ l∈L,l.Ok:=λl hl=>by
  obtain⟨_,_,_,_,_,h1,_⟩:=hL;obtain⟨i,hi,rfl⟩:=List.getElem_of_mem hl;exact(h1 i hi).2.2.1
 have hpok:∀ p∈P,p.Ok:=λp hp=>by
  obtain⟨i,hi,rfl⟩:=List.getElem_of_mem hp;exact(hpc i hi).2.2.1
 have K1:=(kA w (.cells #[.slice lad L.length lc,.slice pad P.length pc] 25)).alloc (by simp) (.cells #[.slice none 0 0,.slice none 0 0] 25)
 have T1:((w.alloc (.cells #[.slice lad L.length lc,.slice pad P.length pc] 25)).alloc (.cells #[.slice none 0 0,.slice none 0 0] 25)).heap[w.heap.size]? = some (.cells #[.slice lad L.length lc,.slice pad P.length pc] 25 (0,0)):=by
  rw [heap_alloc_old _ _ (by simp)]
  exact heap_new _ _
 have R1:=heap_new (w.alloc (.cells #[.slice lad L.length lc,.slice pad P.length pc] 25)) (.cells #[.slice none 0 0,.slice none 0 0] 25)
 have hs1:(w.alloc (.cells #[.slice lad L.length lc,.slice pad P.length pc] 25)).heap.size = w.heap.size + 1:=by simp
 rw [hs1] at R1;obtain⟨ln,hln⟩:∃ ln,ln = L.length:=⟨_,rfl⟩;obtain⟨pn,hpn⟩:∃ pn,pn = P.length:=⟨_,rfl⟩;rw [<- hln] at hL;rw [<- hpn] at hP2;rw [<- hln,<- hpn] at K1 T1 R1 |-;have hln9:(ln:Int)<=1000:=by omega
 have hpn9:(pn:Int)<=1000:=by omega
 have HLN:=hid (show L.length<=100000 by omega)
 have HPN:=hid (show P.length<=100000 by omega)
 have HPE:=hid hpn;have HLV:=hid hL;have HPV:=hid hP2;have HPL:=hid hpl;have HPC:=hid hpc;have HLK:=hid hlok;have HPK:=hid hpok;clear hL hP2 hpn hp hn hln hpl hpc hlok hpok
 go_enter Tryz.func26,Tryz.ntmps26
 go_upto_region 1 with fail
 generalize (w.alloc (.cells #[.slice lad ln lc,.slice pad pn pc] 25)).alloc (.cells #[.slice none 0 0,.slice none 0 0] 25) = w1 at K1 T1 R1 |-
 clear hs1;obtain⟨tb,htb⟩:∃ tb,tb = w.heap.size:=⟨_,rfl⟩;obtain⟨rb,hrb⟩:∃ rb,rb = w.heap.size + 1:=⟨_,rfl⟩;rw [<- hrb] at R1
 (try rw [<- hrb])
 rw [<- htb] at T1
 (try rw [<- htb])
 have HTB:=hid (show ¬ tb < w.heap.size by omega)
 have HRB:=hid (show w.heap.size<=rb by omega)
 have HT1:=hid T1;have HR1:=hid R1;have HK0:=hid K1;have HLA:=hid (λ(w':World) (k:Kp w1 w')=>load_slice (d:=.int .u8) (two_cell0 (rk HT1.out k)) (.inl rfl) rfl)
 have HLB:=hid (λ(w':World) (k:Kp w1 w')=>load_slice (d:=.int .u8) (two_cell1 (rk HT1.out k)) (.inr rfl) rfl)
 clear htb hrb T1 R1 K1;refine Code.wp_mono (Q:=λe a u=>e = .normal/\∃ lv' pv' gt SL,a = { tmps:=#[.agg #[.slice lad ln lc,.slice pad pn pc],.pointer (some ⟨tb,0,none⟩),.pointer (some ⟨rb,0,none⟩),.pointer (some ⟨gt,0,none⟩),undef,undef,.pointer (some ⟨tb,0,none⟩),.slice lad ln lc,lv',.pointer (some ⟨tb,1,none⟩),.slice pad pn pc,pv',(.agg #[lv',pv']),undef,undef,undef,undef,undef,undef,undef,undef,undef,undef,undef,undef,undef,undef,undef,undef,undef,undef],defers:=[] }/\CpSt w1 u L P lv' pv' SL gt) ?rest ?reg
 case reg=>
  refine wp_region_noPanic ?_;refine wp_region_held_drew (S:=λw'=>Kp w1 w') (by kernel_rfl) ((Kept.refl _ _ _).drew) (λhH=>?_)
  have Kwd:=hid hH;obtain⟨wd,hwd⟩:∃ wd,wd = w1.drew:=⟨_,rfl⟩;rw [<- hwd] at hH Kwd |-;clear hwd;refine tkE (i:=0) 6 rfl hH ?_
  apply Exists.intro;apply And.intro
  ·intro w9 _
   go_simp
   first | done | rfl
  simp only [sA,sB,sC];refine tkA (i:=1) 7 (.slice lad ln lc) rfl (yieldsIf_load_known (by kernel_rfl) 22 _ rfl (tb) (0) rfl (.slice lad ln lc) (HLA.out)) hH ?_
  simp only [sA,sB,sC];refine tkE (i:=3) 9 rfl hH ?_
  apply Exists.intro;apply And.intro
  ·intro w9 _
   go_simp
   first | done | rfl
  simp only [sA,sB,sC];refine tkA (i:=4) 10 (.slice pad pn pc) rfl (yieldsIf_load_known (by kernel_rfl) 23 _ rfl (tb) (1) rfl (.slice pad pn pc) (HLB.out)) hH ?_
  simp only [sA,sB,sC];refine wpAnyH_ready (rs:=[2,7]) (by kernel_rfl) (by simp) ?_
  refine AllReadyH.cons rfl (λK hK=>?_) ?_
  ·rw [if_pos (by rfl)]
   obtain⟨lq9,x2,er,ho,hg⟩:=append_leavesN wd (.slice lad ln lc) L (HLV.out.kept (HK0.out.onto Kwd.out)) HLN.out;obtain⟨lad9,ln9,lc9,rfl⟩:=ownc_slice ho;refine wp_append_dst _ _ 22 22 22 rfl rfl (some 8) rfl (.slice none 0 0) (.slice lad ln lc) (Value.slice lad9 ln9 lc9) rfl rfl er ?_
   simp only [Act.put,sA,sB,sC];have Kx2:=hid (Kwd.out.grown hg Kwd.out.size (λk e=>nomatch e))
   have Ax2:=hid (ownc_lower ho Kwd.out.size);clear er ho hg;refine hK.out _ _ Kx2.out (λhH=>?_)
   clear hK K;refine wpAnyH_ready (rs:=[5,7]) (by kernel_rfl) (by simp) ?_
   refine AllReadyH.cons rfl (λK hK=>?_) ?_
   ·rw [if_pos (by rfl)]
    obtain⟨pq9,x25,SL9,hsl,er,ho,hg⟩:=append_parentsN x2 (.slice pad pn pc) P (HPV.out.kept (HK0.out.onto Kx2.out)) HPN.out;obtain⟨pad9,pn9,pc9,rfl⟩:=ownc_slice ho;refine wp_append_dst _ _ 23 23 23 rfl rfl (some 11) rfl (.slice none 0 0) (.slice pad pn pc) (Value.slice pad9 pn9 pc9) rfl rfl er ?_
    simp only [Act.put,sA,sB,sC];have HSL:=hid hsl;have Kx25:=hid (Kx2.out.grown hg Kx2.out.size (λk e=>nomatch e))
    have Px25:=hid (ownc_lower ho Kx2.out.size);have LPx25:=hid (dif_new Ax2.out ho);have Ax25:=hid (Ax2.out.grown hg (own_ne_none _));clear er ho hg hsl;refine hK.out _ _ Kx25.out (λhH=>?_)
    clear hK K;refine tkA (i:=6) 12 ((.agg #[(Value.slice lad9 ln9 lc9),(Value.slice pad9 pn9 pc9)])) rfl (.inl ⟨by kernel_rfl,λw9 _=>by go_simp; first | done | rfl⟩) hH ?_
    simp only [sA,sB,sC];refine wpAnyH_ready (rs:=[7]) (by kernel_rfl) (by simp) ?_
    refine AllReadyH.cons rfl (λK hK=>?_) AllReadyH.nil
    rw [if_pos (by rfl)]
    obtain⟨gt,hgt⟩:∃ gt,gt = x25.heap.size:=⟨_,rfl⟩;have er:=alloc_tree x25;have ho:=heap_new x25 (.cells #[.slice none 0 0,.slice none 0 0] 25)
    have hg:=World.grownBy_alloc x25 (.cells #[.slice none 0 0,.slice none 0 0] 25) none
    rw [<- hgt] at er ho;generalize x25.alloc (.cells #[.slice none 0 0,.slice none 0 0] 25) = x2567 at er ho hg
    refine wp_alloc_known 25 rfl (some 3) rfl _ er ?_
    simp only [Act.put,sA,sB,sC];have Kx2567:=hid (Kx25.out.grown hg Kx25.out.size (λk e=>nomatch e))
    have Tx2567:=hid ho;have GTx2567:=hid (show w1.heap.size<=gt by rw [hgt]; exact Kx25.out.size)
    have Ax2567:=hid (Ax25.out.grown hg (own_ne_none _));have Px2567:=hid (Px25.out.grown hg (own_ne_none _));have LPx2567:=LPx25;have LGx2567:=hid (show(Value.slice lad9 ln9 lc9).ownBlock≠some gt from λe=>by have:=(Ax25.out.2.lt gt e).2; omega)
    have PGx2567:=hid (show(Value.slice pad9 pn9 pc9).ownBlock≠some gt from λe=>by have:=(Px25.out.2.lt gt e).2; omega)
    clear er ho hg hgt;refine hK.out _ _ Kx2567.out (λhH=>?_)
    clear hK K;refine wpAnyH_ready (rs:=[8]) (by kernel_rfl) (by simp) ?_
    refine AllReadyH.cons rfl (λK hK=>?_) AllReadyH.nil
    rw [if_pos (by rfl)]
    refine wp_store_row_none 25 _ _ rfl rfl gt #[(Value.slice lad9 ln9 lc9),(Value.slice pad9 pn9 pc9)] rfl rfl 25 #[.slice none 0 0,.slice none 0 0] Tx2567.out treeInfo rfl (tree_all_own Ax2567.out Px2567.out) ?_
    have HG:=grown_setRow x2567 gt #[(Value.slice lad9 ln9 lc9),(Value.slice pad9 pn9 pc9)];have HS:=setRow_heap x2567 gt _ #[(Value.slice lad9 ln9 lc9),(Value.slice pad9 pn9 pc9)] _ _ Tx2567.out;have HKE:Kp w1 (x2567.setRow gt #[(Value.slice lad9 ln9 lc9),(Value.slice pad9 pn9 pc9)]):=Kx2567.out.grown HG Kx2567.out.size (λk e=>by cases e; exact GTx2567.out)
    have HST:CpSt w1 (x2567.setRow gt #[(Value.slice lad9 ln9 lc9),(Value.slice pad9 pn9 pc9)]) L P (Value.slice lad9 ln9 lc9) (Value.slice pad9 pn9 pc9) SL9 gt:=⟨HKE,Ax2567.out.grown HG (.inr LGx2567.out),Px2567.out.grown HG (.inr PGx2567.out),LPx2567.out,HS,GTx2567.out,HSL.out,LGx2567.out,PGx2567.out⟩;have HST2:=hid HST;clear HG HS HST;generalize x2567.setRow gt #[(Value.slice lad9 ln9 lc9),(Value.slice pad9 pn9 pc9)] = we at HKE HST2 |-;refine hK.out _ _ HKE (λhH=>?_)
    clear hK K;refine wpAnyH_done (by kernel_rfl) ?_ _
    refine NoPanic.normal ?_;exact⟨rfl,(Value.slice lad9 ln9 lc9),(Value.slice pad9 pn9 pc9),gt,SL9,rfl,HST2.out⟩
   refine AllReadyH.cons rfl (λK hK=>?_) AllReadyH.nil
   rw [if_pos (by rfl)]
   obtain⟨gt,hgt⟩:∃ gt,gt = x2.heap.size:=⟨_,rfl⟩;have er:=alloc_tree x2;have ho:=heap_new x2 (.cells #[.slice none 0 0,.slice none 0 0] 25)
   have hg:=World.grownBy_alloc x2 (.cells #[.slice none 0 0,.slice none 0 0] 25) none
   rw [<- hgt] at er ho;generalize x2.alloc (.cells #[.slice none 0 0,.slice none 0 0] 25) = x27 at er ho hg
   refine wp_alloc_known 25 rfl (some 3) rfl _ er ?_
   simp only [Act.put,sA,sB,sC];have Kx27:=hid (Kx2.out.grown hg Kx2.out.size (λk e=>nomatch e))
   have Tx27:=hid ho;have GTx27:=hid (show w1.heap.size<=gt by rw [hgt]; exact Kx2.out.size)
   have Ax27:=hid (Ax2.out.grown hg (own_ne_none _));have LGx27:=hid (show(Value.slice lad9 ln9 lc9).ownBlock≠some gt from λe=>by have:=(Ax2.out.2.lt gt e).2; omega)
   clear er ho hg hgt;refine hK.out _ _ Kx27.out (λhH=>?_)
   clear hK K;refine wpAnyH_ready (rs:=[5]) (by kernel_rfl) (by simp) ?_
   refine AllReadyH.cons rfl (λK hK=>?_) AllReadyH.nil
   rw [if_pos (by rfl)]
   obtain⟨pq9,x275,SL9,hsl,er,ho,hg⟩:=append_parentsN x27 (.slice pad pn pc) P (HPV.out.kept (HK0.out.onto Kx27.out)) HPN.out;obtain⟨pad9,pn9,pc9,rfl⟩:=ownc_slice ho;refine wp_append_dst _ _ 23 23 23 rfl rfl (some 11) rfl (.slice none 0 0) (.slice pad pn pc) (Value.slice pad9 pn9 pc9) rfl rfl er ?_
   simp only [Act.put,sA,sB,sC];have HSL:=hid hsl;have Kx275:=hid (Kx27.out.grown hg Kx27.out.size (λk e=>nomatch e))
   have Px275:=hid (ownc_lower ho Kx27.out.size);have LPx275:=hid (dif_new Ax27.out ho);have Ax275:=hid (Ax27.out.grown hg (own_ne_none _));have Tx275:=hid ((hg.block gt (lt_of_block Tx27.out) (λe=>nomatch e)).trans Tx27.out)
   have GTx275:=GTx27;have LGx275:=LGx27;have PGx275:=hid (show(Value.slice pad9 pn9 pc9).ownBlock≠some gt from λe=>by have:=(ho.2.lt gt e).1; have:=lt_of_block Tx27.out; omega)
   clear er ho hg hsl;refine hK.out _ _ Kx275.out (λhH=>?_)
   clear hK K;refine tkA (i:=6) 12 ((.agg #[(Value.slice lad9 ln9 lc9),(Value.slice pad9 pn9 pc9)])) rfl (.inl ⟨by kernel_rfl,λw9 _=>by go_simp; first | done | rfl⟩) hH ?_
   simp only [sA,sB,sC];refine wpAnyH_ready (rs:=[8]) (by kernel_rfl) (by simp) ?_
   refine AllReadyH.cons rfl (λK hK=>?_) AllReadyH.nil
   rw [if_pos (by rfl)]
   refine wp_store_row_none 25 _ _ rfl rfl gt #[(Value.slice lad9 ln9 lc9),(Value.slice pad9 pn9 pc9)] rfl rfl 25 #[.slice none 0 0,.slice none 0 0] Tx275.out treeInfo rfl (tree_all_own Ax275.out Px275.out) ?_
   have HG:=grown_setRow x275 gt #[(Value.slice lad9 ln9 lc9),(Value.slice pad9 pn9 pc9)];have HS:=setRow_heap x275 gt _ #[(Value.slice lad9 ln9 lc9),(Value.slice pad9 pn9 pc9)] _ _ Tx275.out;have HKE:Kp w1 (x275.setRow gt #[(Value.slice lad9 ln9 lc9),(Value.slice pad9 pn9 pc9)]):=Kx275.out.grown HG Kx275.out.size (λk e=>by cases e; exact GTx275.out)
   have HST:CpSt w1 (x275.setRow gt #[(Value.slice lad9 ln9 lc9),(Value.slice pad9 pn9 pc9)]) L P (Value.slice lad9 ln9 lc9) (Value.slice pad9 pn9 pc9) SL9 gt:=⟨HKE,Ax275.out.grown HG (.inr LGx275.out),Px275.out.grown HG (.inr PGx275.out),LPx275.out,HS,GTx275.out,HSL.out,LGx275.out,PGx275.out⟩;have HST2:=hid HST;clear HG HS HST;generalize x275.setRow gt #[(Value.slice lad9 ln9 lc9),(Value.slice pad9 pn9 pc9)] = we at HKE HST2 |-;refine hK.out _ _ HKE (λhH=>?_)
   clear hK K;refine wpAnyH_done (by kernel_rfl) ?_ _
   refine NoPanic.normal ?_;exact⟨rfl,(Value.slice lad9 ln9 lc9),(Value.slice pad9 pn9 pc9),gt,SL9,rfl,HST2.out⟩
  refine AllReadyH.cons rfl (λK hK=>?_) AllReadyH.nil
  rw [if_pos (by rfl)]
  obtain⟨gt,hgt⟩:∃ gt,gt = wd.heap.size:=⟨_,rfl⟩;have er:=alloc_tree wd;have ho:=heap_new wd (.cells #[.slice none 0 0,.slice none 0 0] 25)
  have hg:=World.grownBy_alloc wd (.cells #[.slice none 0 0,.slice none 0 0] 25) none
  rw [<- hgt] at er ho;generalize wd.alloc (.cells #[.slice none 0 0,.slice none 0 0] 25) = x7 at er ho hg
  refine wp_alloc_known 25 rfl (some 3) rfl _ er ?_
  simp only [Act.put,sA,sB,sC];have Kx7:=hid (Kwd.out.grown hg Kwd.out.size (λk e=>nomatch e))
  have Tx7:=hid ho;have GTx7:=hid (show w1.heap.size<=gt by rw [hgt]; exact Kwd.out.size)
  clear er ho hg hgt;refine hK.out _ _ Kx7.out (λhH=>?_)
  clear hK K;refine wpAnyH_ready (rs:=[2]) (by kernel_rfl) (by simp) ?_
  refine AllReadyH.cons rfl (λK hK=>?_) AllReadyH.nil
  rw [if_pos (by rfl)]
  obtain⟨lq9,x72,er,ho,hg⟩:=append_leavesN x7 (.slice lad ln lc) L (HLV.out.kept (HK0.out.onto Kx7.out)) HLN.out;obtain⟨lad9,ln9,lc9,rfl⟩:=ownc_slice ho;refine wp_append_dst _ _ 22 22 22 rfl rfl (some 8) rfl (.slice none 0 0) (.slice lad ln lc) (Value.slice lad9 ln9 lc9) rfl rfl er ?_
  simp only [Act.put,sA,sB,sC];have Kx72:=hid (Kx7.out.grown hg Kx7.out.size (λk e=>nomatch e))
  have Ax72:=hid (ownc_lower ho Kx7.out.size);have Tx72:=hid ((hg.block gt (lt_of_block Tx7.out) (λe=>nomatch e)).trans Tx7.out)
  have GTx72:=GTx7;have LGx72:=hid (show(Value.slice lad9 ln9 lc9).ownBlock≠some gt from λe=>by have:=(ho.2.lt gt e).1; have:=lt_of_block Tx7.out; omega)
  clear er ho hg;refine hK.out _ _ Kx72.out (λhH=>?_)
  clear hK K;refine wpAnyH_ready (rs:=[5]) (by kernel_rfl) (by simp) ?_
  refine AllReadyH.cons rfl (λK hK=>?_) AllReadyH.nil
  rw [if_pos (by rfl)]
  obtain⟨pq9,x725,SL9,hsl,er,ho,hg⟩:=append_parentsN x72 (.slice pad pn pc) P (HPV.out.kept (HK0.out.onto Kx72.out)) HPN.out;obtain⟨pad9,pn9,pc9,rfl⟩:=ownc_slice ho;refine wp_append_dst _ _ 23 23 23 rfl rfl (some 11) rfl (.slice none 0 0) (.slice pad pn pc) (Value.slice pad9 pn9 pc9) rfl rfl er ?_
  simp only [Act.put,sA,sB,sC];have HSL:=hid hsl;have Kx725:=hid (Kx72.out.grown hg Kx72.out.size (λk e=>nomatch e))
  have Px725:=hid (ownc_lower ho Kx72.out.size);have LPx725:=hid (dif_new Ax72.out ho);have Ax725:=hid (Ax72.out.grown hg (own_ne_none _));have Tx725:=hid ((hg.block gt (lt_of_block Tx72.out) (λe=>nomatch e)).trans Tx72.out)
  have GTx725:=GTx72;have LGx725:=LGx72;have PGx725:=hid (show(Value.slice pad9 pn9 pc9).ownBlock≠some gt from λe=>by have:=(ho.2.lt gt e).1; have:=lt_of_block Tx72.out; omega)
  clear er ho hg hsl;refine hK.out _ _ Kx725.out (λhH=>?_)
  clear hK K;refine tkA (i:=6) 12 ((.agg #[(Value.slice lad9 ln9 lc9),(Value.slice pad9 pn9 pc9)])) rfl (.inl ⟨by kernel_rfl,λw9 _=>by go_simp; first | done | rfl⟩) hH ?_
  simp only [sA,sB,sC];refine wpAnyH_ready (rs:=[8]) (by kernel_rfl) (by simp) ?_
  refine AllReadyH.cons rfl (λK hK=>?_) AllReadyH.nil
  rw [if_pos (by rfl)]
  refine wp_store_row_none 25 _ _ rfl rfl gt #[(Value.slice lad9 ln9 lc9),(Value.slice pad9 pn9 pc9)] rfl rfl 25 #[.slice none 0 0,.slice none 0 0] Tx725.out treeInfo rfl (tree_all_own Ax725.out Px725.out) ?_
  have HG:=grown_setRow x725 gt #[(Value.slice lad9 ln9 lc9),(Value.slice pad9 pn9 pc9)];have HS:=setRow_heap x725 gt _ #[(Value.slice lad9 ln9 lc9),(Value.slice pad9 pn9 pc9)] _ _ Tx725.out;have HKE:Kp w1 (x725.setRow gt #[(Value.slice lad9 ln9 lc9),(Value.slice pad9 pn9 pc9)]):=Kx725.out.grown HG Kx725.out.size (λk e=>by cases e; exact GTx725.out)
  have HST:CpSt w1 (x725.setRow gt #[(Value.slice lad9 ln9 lc9),(Value.slice pad9 pn9 pc9)]) L P (Value.slice lad9 ln9 lc9) (Value.slice pad9 pn9 pc9) SL9 gt:=⟨HKE,Ax725.out.grown HG (.inr LGx725.out),Px725.out.grown HG (.inr PGx725.out),LPx725.out,HS,GTx725.out,HSL.out,LGx725.out,PGx725.out⟩;have HST2:=hid HST;clear HG HS HST;generalize x725.setRow gt #[(Value.slice lad9 ln9 lc9),(Value.slice pad9 pn9 pc9)] = we at HKE HST2 |-;refine hK.out _ _ HKE (λhH=>?_)
  clear hK K;refine wpAnyH_done (by kernel_rfl) ?_ _
  refine NoPanic.normal ?_;exact⟨rfl,(Value.slice lad9 ln9 lc9),(Value.slice pad9 pn9 pc9),gt,SL9,rfl,HST2.out⟩
 case rest=>
  rintro e a u ⟨rfl,lv',pv',gt,SL,rfl,HC⟩;obtain⟨l9,lg9,lc9,hl9,_⟩:=HC.lo.at;obtain⟨p9,pg9,pc9,hp9,_,_⟩:=HC.po.at;have hpz:(List.zipWith Pr.cells P SL).length = pn:=by rw [List.length_zipWith,HC.len,Nat.min_self,HPE.out]
  obtain⟨l9n,hl9n⟩:∃ q,q = (L.map Lf.cells).length:=⟨_,rfl⟩;rw [<- hl9n] at hl9;rw [hpz] at hp9;subst hl9 hp9;clear hl9n hpz;have HC0:=hid (HC.cpy HLK.out HPK.out);have HKC:=hid HC.kp;have HGT:=hid HC.row;have HGG:=hid HC.ge;have HPG:=hid HC.pg;have HR2:=hid ((HC.kp.block rb (lt_of_block HR1.out) (Nat.ne_of_lt (lt_of_block HR1.out))).trans HR1.out);have HRL:=hid (lt_of_block HR1.out);have t1:=HLB.out u HC.kp;clear HC
  go_upto_region 2 with fail
  refine wp_region_lit ?_;refine wW λK hK=>?_;go_simp;apply hK;clear hK K;refine wLk 23 (.tmp 13) rfl (tb) (1) rfl (.slice pad pn pc) (t1) ?_
  simp only [Act.put,sA,sB,sC];iterate 2 (refine wW λK hK=>?_;go_simp;apply hK;clear hK K)
  clear t1
  go_wp2_with fail
  go_loopw [16] (λs16 x=>∃ i:Nat,s16 = .int .i64 (i:Int)/\Hid (i<=pn)/\∃ SL,Hid (Kp w1 x)/\Hid (x.heap[gt]? = some (.cells #[.slice l9 l9n lc9,.slice p9 pn pc9] 25 (0,0)))/\Hid (Cpy (λk=>k < w1.heap.size\/k = gt) x (.slice l9 l9n lc9) (.slice p9 pn pc9) L P SL i)) (λs16 _=>pn - (RowKit.intOf s16).toNat)
  case atStart=>exact⟨0,rfl,hid (Nat.zero_le _),SL,HKC,HGT,HC0⟩
  case round=>
   clear HC0 HGT HKC HPG;obtain⟨i,rfl,hi,SL,HKC,HGT,HC⟩:=hrel
   by_cases hlt:i < pn
   ·have hiP:i < P.length:=by rw [<- HPE.out]; exact hlt
    have hlti:(i:Int) < (pn:Int):=by omega
    have hi0:¬ (i:Int) < 0:=by omega
    have HIP:=hid hiP;obtain⟨had,hg,hok,sl,hr,hnums⟩:=HPC.out i hiP;subst had;have KW:=HK0.out.onto HKC.out;have hr2:=range_kept10 hr hg KW;have hn2:=hnums.kept KW;obtain⟨sad,sc,ng,no,rfl,hzz⟩:=hnums;clear hzz;obtain⟨p,hp⟩:∃ p,p = P[i]'hiP:=⟨_,rfl⟩;rw [<- hp] at hok hr2 hn2;have HPP:=hid (show p = P[i]'HIP.out from hp);have HN2L:=hid (show p.loose.length<=100000 by rw [hp]; have:=HPL.out _ (List.getElem_mem hiP); omega)
    rw [<- hp] at hr;obtain⟨sn,hsn⟩:∃ n,n = p.loose.length:=⟨_,rfl⟩;rw [<- hsn] at hr2 hn2;have hla:=run_loadVar_mid wr pg (po + i * 66) 68 _ _ hr2 Tryz.underlying68 rfl (by have:=parentInfo (Pr.size hok (.slice sad sn sc)); simpa using this)
    obtain⟨PD,hPD⟩:∃ D,D = (p.cells (.slice sad sn sc)).toArray:=⟨_,rfl⟩;have HPS:=hid (show PD.size = 66 by rw [hPD]; exact Pr.size hok _)
    have HPI:=hid (parentInfo HPS.out);have HPA:=hid (show PD.all (·.oneCell') = true by rw [hPD]; exact Pr.all _ _ _ _)
    rw [<- hPD] at hla;have HLAX:=hid hla;have HPD:=hid hPD;have HOK:=hid hok;have HN2:=hid hn2;have HLT:=hid hlt;clear hr hr2 hn2 hla hPD hg hp hsn hlt hiP hok KW
    as_aux_lemma=>
     go_upto_region 4 with fail
     refine wp_region_lit ?_;iterate 2 (refine wW λK hK=>?_;go_simp;apply hK;clear hK K)
     refine wLk 68 (.tmp 19) rfl (pg) (po + i * 66) rfl (.agg PD) (HLAX.out) ?_
     simp only [Act.put,sA,sB,sC];refine @wpL_alloc _ _ _ _ _ _ _ _ ?_ 68 rfl _ (alloc_parent _) ?_;kernel_rfl
     simp only [Act.put,sA,sB,sC];refine wW λK hK=>?_;go_simp;apply hK;clear hK K;refine wpList_store_row rfl 68 _ _ rfl (wr.heap.size) PD rfl rfl 68 (Pr.zero.cells (.slice none 0 0)).toArray (heap_new _ _) (HPI.out) (by rw [HPS.out]; rfl) (HPA.out) ?_
     simp only [Act.put];rw [World.setRow_alloc_new];have ka:=kA wr (.cells PD 68)
     have ra:=heap_new wr (.cells PD 68)
     have ca:=HC.out.grown (World.grownBy_alloc wr (.cells PD 68) none)
     have ga:=row_kept HGT.out ka;have na:=HN2.out.kept ka;have kca:=HKC.out.onto ka;generalize wr.alloc (.cells PD 68) = wa at ka ra ca ga na kca |-
     obtain⟨pb,hpb⟩:∃ n,n = wr.heap.size:=⟨_,rfl⟩;rw [<- hpb] at ra
     (try rw [<- hpb])
     have hlc:wa.cell? ⟨pb,65,none⟩ = some (.slice sad sn sc):=pr_loose HOK.out (by rw [<- HPD.out]; exact ra)
     have HRA:=hid ra;have HCA:=hid ca;have HGA:=hid ga;have HNA:=hid na;have HKA:=hid kca;have HLC:=hid (λ(x:World) (kk:Kp wa x)=>load_slA (t:=38) ((kk.cell (p:=⟨pb,65,none⟩) (lt_of_block HRA.out) (Nat.ne_of_lt (lt_of_block HRA.out))).trans hlc) (.inr (.inr rfl)))
     have HLP:=hid (λ(x:World) (kk:Kp wa x)=>load_slice (d:=.int .u8) (two_cell1 (row_kept HGA.out kk)) (.inr rfl) rfl)
     have KD:Kp wa wa.drew:=(Kept.refl _ _ _).drew;obtain⟨wd,hwd⟩:∃ wd,wd = wa.drew:=⟨_,rfl⟩;rw [<- hwd] at KD;obtain⟨s9,wb,er,hn9,hg9⟩:=append_nums wd (.slice sad sn sc) p.loose (HNA.out.kept KD) HN2L.out;obtain⟨qad,qn,qc,rfl⟩:=one_slice hn9;have kb:Kp wa wb:=KD.onto hg9.keptN;have hpo:=HCA.out.po;have hmz:(List.zipWith Pr.cells P SL).length = pn:=by rw [List.length_zipWith,HCA.out.len,Nat.min_self,HPE.out]
     obtain⟨pg9,cap9,hps9⟩:=own_shape hpo (by rw [hmz]; have:=HLT.out; omega)
     rw [hmz] at hps9;injection hps9 with e1 e2 e3
     subst e1 e3;clear e2;have gd:wa.grownBy wd none:=by rw [hwd]; exact(Kept.refl _ _ _).drew.grew
     have hnx:=(HCA.out.grown gd).next HIP.out (.slice qad qn qc) hg9 (by rw [<- HPP.out]; exact hn9)
     have hthere:=part_there (HCA.out.grown (gd.transN hg9)).po i (by rw [hmz]; exact HLT.out)
     have HMX:=hid hnx.1;have KEND:=hid ((HKA.out.onto kb).grown hnx.2 (HKA.out.onto kb).size (λk e=>by cases e; exact(HCA.out.op _ rfl |> λh=>Nat.le_of_not_lt (λh2=>h (.inl h2)))))
     have GEND:=hid ((hnx.2.block gt (Nat.lt_of_lt_of_le (lt_of_block HGA.out) kb.size) (λe=>HCA.out.op _ rfl (.inr (Option.some.inj e).symm))).trans (row_kept HGA.out kb))
     have ER:=hid er;have KB:=hid kb;have HTH:=hid hthere;have KDD:=hid KD;clear ka hlc kb hpo hmz gd hnx hthere er KD hn9 hg9 hpb
     go_upto_region 5 with fail
     refine wp_region_noPanic ?_;refine wp_region_heldTo 8 (S:=λx=>Kp wa x) (by kernel_rfl) (by rw [<- hwd]; exact KDD.out) (λhH=>?_)
     refine tkH (i:=0) 21 rfl hH ?_
     apply Exists.intro;apply And.intro
     ·intro w9 h9
      go_simp
      first | done | rfl
     simp only [sA,sB,sC];refine tkT (i:=1) 22 (.slice (some ⟨pg9,0,none⟩) pn pc9) rfl (yieldsIf_load_known (by kernel_rfl) 23 _ rfl (gt) (1) rfl (.slice (some ⟨pg9,0,none⟩) pn pc9) (λx hx=>HLP.out x hx)) hH ?_
     simp only [sA,sB,sC];refine tkH (i:=2) 23 rfl hH ?_
     apply Exists.intro;apply And.intro
     ·intro w9 h9
      go_simp
      first | done | rfl
     simp only [sA,sB,sC];refine tkH (i:=3) 24 rfl hH ?_
     apply Exists.intro;apply And.intro
     ·intro w9 h9
      go_simp
      first | done | rfl
     simp only [sA,sB,sC];refine tkT (i:=4) 25 (.slice sad sn sc) rfl (yieldsIf_load_known (by kernel_rfl) 38 _ rfl (pb) (65) rfl (.slice sad sn sc) (λx hx=>HLC.out x hx)) hH ?_
     simp only [sA,sB,sC];rw [<- hwd];refine heldTo_one (i:=5) (by kernel_rfl) rfl (λK hK=>?_)
     rw [if_pos (by rfl)]
     refine wp_append_dst _ _ 38 38 38 rfl rfl (some 26) rfl (.slice none 0 0) (.slice sad sn sc) (.slice qad qn qc) rfl rfl ER.out ?_
     simp only [Act.put,sA,sB,sC];refine hK.out _ _ KB.out (λhH=>?_)
     clear hK K;refine heldTo_one (i:=6) (by kernel_rfl) rfl (λK hK=>?_)
     rw [if_pos (by rfl)]
     go_simp;have KS:=KB.out;refine hK.out _ _ KS (λhH=>?_)
     clear hK K KS;refine tkH (i:=7) 28 rfl hH ?_
     apply Exists.intro;apply And.intro
     ·intro w9 h9
      go_simp
      first | done | rfl
     simp only [sA,sB,sC];refine heldTo_last (by kernel_rfl) rfl (λK hK=>?_)
     rw [if_pos (by rfl)]
     refine wp_store_cellA 38 _ _ rfl rfl pg9 (i * 66 + 65) (.slice qad qn qc) rfl rfl HTH.out rfl (by kernel_rfl) ?_
     refine hK.out _ _ ?_;clear hK K;refine heldTo_done (by kernel_rfl) ?_ _
     refine NoPanic.normal ?_;clear hH;generalize wb.setCell ⟨pg9,i * 66 + 65,none⟩ (.slice qad qn qc) = wz at HMX KEND GEND |-;go_wp2
     go_roundw
     case rel=>exact⟨i + 1,by simp,hid HLT.out,_,KEND,GEND,HMX⟩
     case measure=>have:=HLT.out; simp [RowKit.intOf]; omega
   ·have hnl:¬ (i:Int) < (pn:Int):=by omega
    have hip:i = P.length:=by have:=hi.out; have:=HPE.out; omega
    subst hip;have HM:=hid (HC.out.mine);clear hlt hi HC
    as_aux_lemma=>
     go_upto_region 7 with fail
     have HR3:=(HKC.out.block rb HRL.out (Nat.ne_of_lt HRL.out)).trans HR1.out;refine wp_region_lit ?_;refine wLk 25 (.tmp 3) rfl (gt) (0) rfl (.agg #[.slice l9 l9n lc9,.slice p9 pn pc9]) (run_loadVar_row wr gt 25 25 _ (0,0) _ HGT.out Tryz.underlying25 rfl treeInfo) ?_
     simp only [Act.put,sA,sB,sC];refine wpList_store_row rfl 25 _ _ rfl rb #[.slice l9 l9n lc9,.slice p9 pn pc9] rfl rfl 25 #[.slice none 0 0,.slice none 0 0] HR3 treeInfo rfl (tree_all _ _ _ _ _ _) ?_
     simp only [Act.put];have R7:=setRow_heap wr rb _ #[.slice l9 l9n lc9,.slice p9 pn pc9] _ _ HR3;have g7:=grown_setRow wr rb #[.slice l9 l9n lc9,.slice p9 pn pc9];have M7:=HM.out.aside (b:=rb) (.inl HRL.out) g7;have K7:Kept w.heap.size w.heap.size w (wr.setRow rb #[.slice l9 l9n lc9,.slice p9 pn pc9]):=kept_setRow10 (HK0.out.onto HKC.out) rb HRB.out _;generalize wr.setRow rb #[.slice l9 l9n lc9,.slice p9 pn pc9] = w7 at R7 M7 K7 |-;go_wp2;refine bodyPost_ret (results_row1A rfl _ _ rb 25 _ (0,0) _ rfl R7 Tryz.underlying25 rfl treeInfo) rfl ?_
     exact⟨_,_,rfl,K7,_,M7.mono (λk hk=>.inl (Nat.lt_of_lt_of_le hk HK0.out.size))⟩
theorem setCells_rowA {b:Nat}{t:TypeId}:∀ (vs A B C:List Value) (w:World),vs.length = B.length->w.heap[b]? = some (.cells (A ++ (B ++ C)).toArray t (0,0))->(w.setCells b A.length vs).heap[b]? = some (.cells (A ++ (vs ++ C)).toArray t (0,0))
 | [],A,[],C,w,_,h=>h
 | v :: vs,A,x :: B,C,w,hl,h=>by
  have h1:=cells_set h A.length v;have e1:(A ++ (x :: B ++ C)).set A.length v = (A ++ [v]) ++ (B ++ C):=by simp
  rw [e1] at h1;have:=setCells_rowA vs (A ++ [v]) B C _ (by simpa using hl) h1
  rw [World.setCells];have e2:(A ++ [v]).length = A.length + 1:=by simp
  rw [e2] at this;have e3:(A ++ [v]) ++ (vs ++ C) = A ++ (v :: vs ++ C):=by simp
  rw [e3] at this;exact this
theorem grown_setCellsA (b:Nat):∀ (vs:List Value) (o:Nat) (w:World),w.grownBy (w.setCells b o vs) (some b)
 | [],_,w=>⟨rfl,rfl,rfl,Nat.le_refl _,λ_ _ _=>rfl⟩
 | v :: r,o,w=>by
  have h1:=grown_set w b o v;have h2:=grown_setCellsA b r (o + 1) (w.setCell ⟨b,o,none⟩ v);exact⟨h2.os.trans h1.os,h2.tape.trans h1.tape,h2.output.trans h1.output,Nat.le_trans h1.size h2.size,λi hi hne=>(h2.block i (Nat.lt_of_lt_of_le hi h1.size) hne).trans (h1.block i hi hne)⟩
theorem there_rowA {w:World}{b:Nat}{cs:List Value}{t:TypeId}(h:w.heap[b]? = some (.cells cs.toArray t (0,0))){o n:Nat}(hn:o + n<=cs.length):w.there b o n:=λj hj=>by
 refine⟨?_,by simp [World.frozen?,h]⟩
 rw [cells_at h (o + j) (by omega)]
 rfl
theorem append_intA (w:World)(base:Nat)(v:Value)(L:List Int)(x:Int)(h:Ints w base v L)(b c:Nat)(hb:w.cell? ⟨b,0,none⟩ = some (.int .i64 x))(hn:L.length < 100000)(hbase:base<=w.heap.size):
  ∃ v' w',(Builtin.append_ #[38,38] 38 #[v,.slice (some ⟨b,0,none⟩) 1 c]).run Tryz.prog w = .ok v' w'/\Ints w' base v' (L ++ [x])/\w.grownBy w' v.ownBlock/\(v'.ownBlock = v.ownBlock\/v'.ownBlock = some w.heap.size):=by
 obtain⟨i0,hi,hz0,hz1,hz2⟩:=info_parts intInfo
 obtain⟨v',w',e1,e2,e3,_,e4⟩:=run_append_own_at (P:=Tryz.prog) (w:=w) base 38 38 3 i0 (.int .i64 0) 1 8 Tryz.underlying38 hi hz0 hz1 hz2 rfl (by decide) v L.length (L.map (Value.int .i64)) h ⟨b,0,none⟩ 1 c [.int .i64 x]
  rfl (λj u hu=>by
   rw [Addr.add_lit]
   match j,hu with
   | 0,hu=>cases hu; exact hb) (λu hu=>by rw [List.mem_singleton.1 hu]; rfl) (by unfold maxLen; omega) (by omega) hbase
 refine⟨v',w',e1,?_,e3,e4⟩;unfold Ints;rw [List.length_append,List.map_append];exact e2
section
variable {B B':Nat->Prop} {w w1:World} {lv pv:Value} {L:List Lf} {P:List Pr} {SL:List Value}
theorem Mine.asideO (h:Mine B w lv pv L P SL)(o:Option Nat)(ho:∀ b,o = some b->B b)(g:w.grownBy w1 o):Mine B w1 lv pv L P SL:=by
 cases o with
 | none=>exact h.keep g (own_ne_none _) (own_ne_none _) (λ_ _=>own_ne_none _)
 | some b=>exact h.aside (ho b rfl) g
theorem Mine.also (h:Mine B w lv pv L P SL)(hb:∀ k,B' k->B k\/(w.heap.size<=k/\k < w1.heap.size))(hs:Mine B w1 lv pv L P SL)(hw:w.heap.size<=w1.heap.size):Mine B' w1 lv pv L P SL:=
 { hs with
   ol:=λg e b=>(hb g b).elim (h.ol g e) (λq=>by have:=(h.lo.2.lt g e).2; omega)
   op:=λg e b=>(hb g b).elim (h.op g e) (λq=>by have:=(h.po.2.lt g e).2; omega)
   os:=λs hm g e b=>(hb g b).elim (h.os s hm g e) (λq=>by
    obtain⟨i,hi,rfl⟩:=List.getElem_of_mem hm;have h2:=(h.so i (P[i]'(by rw [<- h.len]; exact hi)) _ (List.getElem?_eq_getElem _) (List.getElem?_eq_getElem hi)).lt g e
    omega)
   bnd:=λk b=>(hb k b).elim (λq=>Nat.lt_of_lt_of_le (h.bnd k q) hw) (λq=>q.2) }
end
theorem wpL_store_cellA {P:Program}{ops:Array Oper}{rest:List Oper}{o:Oper}{a:Act}{w:World}{Q:Exit->Act->World->Prop}(hw:Region.wanted o (yielded ops a.tmps) = true)(ty:TypeId)(x y:Operand)(ho:o.op = .store ty x y)(b k:Nat)(v:Value)(hx:a.eval x = .pointer (some ⟨b,k,none⟩))(hy:a.eval y = v)
  (ht:(w.cell? ⟨b,k,none⟩).isSome = true/\w.frozen? ⟨b,k,none⟩ = false) (hv:v.oneCell' = true) (hi:(P.info? ty).map (·.size) = some 1) (hq:wpList P ops Q rest (a.put o.dst undef) (w.setCell ⟨b,k,none⟩ v)):wpList P ops Q (o :: rest) a w:=by
 refine wpList_step λK hK=>?_
 rw [if_pos hw];have hrun:=run_store_cellA (P:=P) w ty b k v ht hv hi;unfold Oper.wp execOp;simp only [ho,hx,hy,Instr.storeAt,Instr.sureAddr,Sem.run_bind,Sem.run_pure,Result.andThen_ok,hrun];exact hK _ _ hq
theorem right_looseA {L:List Lf}{P:List Pr}(h:Tt.right L P = true):∀ p∈P,p.loose.length<=1000:=λp hp=>by
 obtain⟨h1,_,h3⟩:=Tt.right_parts h;exact Nat.le_trans (Tt.parents_loose h1 P 0 h3 p hp) (by decide)
theorem Pns.ok {w:World}{rv:Value}{R:List Pn}(h:Pns w rv R):∀ p∈R,p.ver.length = 32/\∀ c∈p.cards,CdOk c:=λp hp=>by
 obtain⟨ad,g,o,c,_,h1⟩:=h;obtain⟨i,hi,rfl⟩:=List.getElem_of_mem hp;obtain⟨_,_,h2,cv,_,h3⟩:=h1 i hi;refine⟨h2,λc hc=>?_⟩
 obtain⟨ad2,g2,o2,c2,_,h4⟩:=h3;obtain⟨j,hj,rfl⟩:=List.getElem_of_mem hc;exact(h4 j hj).2.2.1
theorem leaf_okA {w:World}{rv:Value}{R:List Pn}(h:Pns w rv R){ts:List Int}{n:Int}(hc:Ap.cardErr R ts n = 0):(Ap.leaf R ts n).Ok:=by
 obtain⟨h1,h2⟩:=Ap.cardErr_zero hc;have h3:=h.ok _ (Ap.person_mem h1);exact⟨(h3.2 _ (Ap.card_mem h2)).2,h3.1,rfl⟩
structure Gm (w0 w:World) (gb:Nat) (rv lv pv fv:Value) (SL:List Value) (s:Gp):Prop where
 kp:Kp w0 w
 row:w.heap[gb]? = some (.cells (gcells lv pv s.ts rv fv).toArray 70 (0,0))
 mine:Mine (λk=>k < w0.heap.size\/k = gb\/fv.ownBlock = some k) w lv pv s.L s.P SL
 fr:Ints w w0.heap.size fv s.fr
 frg:fv.ownBlock≠some gb
 ge:w0.heap.size<=gb
 ts:s.ts.length = 64
section
variable {w0 w w1:World} {gb:Nat} {rv lv pv lv' pv' fv:Value} {SL SL':List Value} {s:Gp} {L':List Lf} {P':List Pr}
theorem Gm.len (h:Gm w0 w gb rv lv pv fv SL s):(gcells lv pv s.ts rv fv).length = 68:=gcells_length lv pv h.ts rv fv
theorem Gm.lt (h:Gm w0 w gb rv lv pv fv SL s):gb < w.heap.size:=lt_of_block h.row
theorem Gm.kept (h:Gm w0 w gb rv lv pv fv SL s)(k:Kp w w1):Gm w0 w1 gb rv lv pv fv SL s:=
 { h with
   kp:=h.kp.onto k
   row:=row_kept h.row k
   mine:=h.mine.kept k
   fr:=World.ownsRow.kept h.fr k.grew (own_ne_none _) }
theorem Gm.tree (h:Gm w0 w gb rv lv pv fv SL s)(k:Kp w w1)(m:Mine (λk=>k < w.heap.size) w1 lv' pv' L' P' SL'):
  w1.there gb 0 2/\Gm w0 (w1.setCells gb 0 [lv',pv']) gb rv lv' pv' fv SL' ⟨L',P',s.ts,s.fr⟩:=by
 have h1:=h.kept k;have g:=grown_setCellsA gb [lv',pv'] 0 w1;refine⟨there_rowA h1.row (by rw [h1.len]; omega),?_⟩
 exact {
  kp:=h1.kp.grown g h1.kp.size (λq e=>by cases e; exact h.ge)
  row:=setCells_rowA [lv',pv'] [] [lv,pv] _ w1 rfl h1.row
  mine:=(m.aside (b:=gb) h.lt g).mono (λq hq=>by
   rcases hq with hq | hq | hq
   ·exact Nat.lt_of_lt_of_le hq h.kp.size
   ·exact hq ▸ h.lt
   ·exact(World.ownsRow.lt h.fr q hq).2)
  fr:=World.ownsRow.kept h1.fr g (.inr h.frg)
  frg:=h.frg
  ge:=h.ge
  ts:=h.ts }
theorem Gm.time (h:Gm w0 w gb rv lv pv fv SL s)(k:Nat)(hk:k < 64)(x:Int):
  ((w.cell? ⟨gb,2 + k,none⟩).isSome = true/\w.frozen? ⟨gb,2 + k,none⟩ = false)/\Gm w0 (w.setCell ⟨gb,2 + k,none⟩ (.int .i64 x)) gb rv lv pv fv SL ⟨s.L,s.P,s.ts.set k x,s.fr⟩:=by
 have g:=grown_set w gb (2 + k) (.int .i64 x);have ht:=there_rowA h.row (o:=2) (n:=64) (by rw [h.len]; omega)
 refine⟨ht k hk,?_⟩
 exact {
  kp:=h.kp.grown g h.kp.size (λq e=>by cases e; exact h.ge)
  row:=by
   have h1:=cells_set h.row (2 + k) (.int .i64 x)
   have e1:(gcells lv pv s.ts rv fv).set (2 + k) (.int .i64 x) = gcells lv pv (s.ts.set k x) rv fv:=by
    unfold gcells;rw [List.set_append_right _ _ (by simp),List.set_append_left _ _ (by simp [icells_length,h.ts]; omega),<- icells_set]
    simp
   rw [e1] at h1;exact h1
  mine:=h.mine.aside (b:=gb) (.inr (.inl rfl)) g
  fr:=World.ownsRow.kept h.fr g (.inr h.frg)
  frg:=h.frg
  ge:=h.ge
  ts:=by rw [List.length_set]; exact h.ts }
theorem Gm.more (h:Gm w0 w gb rv lv pv fv SL s)(x:Int)(hl:s.fr.length<=1000):
  ∃ ad n c w2,(Builtin.append_ #[38,38] 38 #[fv,.slice (some ⟨w.heap.size,0,none⟩) 1 1]).run Tryz.prog (w.alloc (.cells #[.int .i64 x] 3)) = .ok (.slice ad n c) w2 /\
   ((w2.cell? ⟨gb,67,none⟩).isSome = true/\w2.frozen? ⟨gb,67,none⟩ = false)/\Gm w0 (w2.setCell ⟨gb,67,none⟩ (.slice ad n c)) gb rv lv pv (.slice ad n c) SL ⟨s.L,s.P,s.ts,s.fr ++ [x]⟩:=by
 have ka:=kA w (.cells #[.int .i64 x] 3)
 have ha:=h.kept ka;have hcell:(w.alloc (.cells #[.int .i64 x] 3)).cell? ⟨w.heap.size,0,none⟩ = some (.int .i64 x):=World.cell?_alloc_new w _ _ 0
 obtain⟨v',w2,e1,e2,e3,e4⟩:=append_intA (w.alloc (.cells #[.int .i64 x] 3)) w0.heap.size fv s.fr x ha.fr w.heap.size 1 hcell (by omega) ha.kp.size
 obtain⟨ad,n,c,rfl⟩:=one_slice e2;have hsz:(w.alloc (.cells #[.int .i64 x] 3)).heap.size = w.heap.size + 1:=by simp
 have hrow:w2.heap[gb]? = some (.cells (gcells lv pv s.ts rv fv).toArray 70 (0,0)):=(e3.block gb ha.lt (λe=>h.frg e.symm)).trans ha.row
 have hg:=grown_set w2 gb 67 (.slice ad n c)
 have hne:(Value.slice ad n c).ownBlock≠some gb:=λe=>by
  rcases e4 with e5 | e5
  ·exact h.frg (e5 ▸ e)
  ·rw [e5] at e
   have:=Option.some.inj e;have:=h.lt
   omega
 refine⟨ad,n,c,w2,e1,there_rowA hrow (o:=67) (n:=1) (by rw [h.len]; omega) 0 (by decide),?_⟩
 exact {
  kp:=(ha.kp.grown e3 ha.kp.size (λq e=>(World.ownsRow.lt ha.fr q e).1)).grown hg (Nat.le_trans ha.kp.size e3.size) (λq e=>by cases e; exact h.ge)
  row:=by
   have h1:=cells_set hrow 67 (.slice ad n c)
   have e5:(gcells lv pv s.ts rv fv).set 67 (.slice ad n c) = gcells lv pv s.ts rv (.slice ad n c):=by
    unfold gcells;rw [List.set_append_right _ _ (by simp),List.set_append_right _ _ (by simp [icells_length,h.ts])]
    simp [icells_length,h.ts]
   rw [e5] at h1;exact h1
  mine:=by
   have m1:=ha.mine.asideO fv.ownBlock (λb e=>.inr (.inr e)) e3
   have m2:Mine (λk=>k < w0.heap.size\/k = gb\/(Value.slice ad n c).ownBlock = some k) w2 lv pv s.L s.P SL:=ha.mine.also (λk hk=>by
    rcases hk with hk | hk | hk
    ·exact .inl (.inl hk)
    ·exact .inl (.inr (.inl hk))
    ·rcases e4 with e5 | e5
     ·exact .inl (.inr (.inr (e5 ▸ hk)))
     ·rw [e5] at hk
      have h5:=Option.some.inj hk;have h6:=(World.ownsRow.lt e2 k (by rw [e5]; exact congrArg some h5)).2
      exact .inr ⟨by omega,h6⟩) m1 e3.size
   exact m2.aside (b:=gb) (.inr (.inl rfl)) hg
  fr:=World.ownsRow.kept e2 hg (.inr hne)
  frg:=hne
  ge:=h.ge
  ts:=h.ts }
def Ga (w0 w':World)(gb:Nat)(rv:Value)(R:List Pn)(s:Gp)(n:Int):Prop:=Ap.aerr R s n = 0->∃ lv pv fv SL,Gm w0 w' gb rv lv pv fv SL (Ap.anext R s n)
def Gd (w0 w':World)(gb:Nat)(rv:Value)(R:List Pn)(s:Gp)(c:Cg):Prop:=Ap.err R s c = 0->∃ lv pv fv SL,Gm w0 w' gb rv lv pv fv SL (Ap.next R s c)
end
end Go.Proofs.YtinebhdilnndaaaGreatDoor
