/-
 TreeMem; TreeSmall; TreeLoose; TreeLeaves; TreeParents: several texts in one.
-/
import Derived.Test.YtnlbgggnpoeleaaGreatDoorHeldEx
import Derived.Test.YtnlbgggnpoeleaaGreatDoorGS
import Derived.Test.YtnlbgggnpoeleaaGreatDoorHK
set_option maxRecDepth 100000
set_option maxHeartbeats 6400000
namespace Go.Proofs.YtnlbgggnpoeleaaGreatDoor
open Go.RowKit Go.Lib
open List renaming setIfInBounds_toArray -> sA, set_cons_zero -> sB, set_cons_succ -> sC
open BigFrame renaming wpList_want -> wQ
structure Lf where
 name:Int
 pub:List UInt8
 ver:List UInt8
 abv:List UInt8
structure Pr where
 set:Bool
 pub:List UInt8
 abv:List UInt8
 loose:List Int
namespace Tt
def z32:List UInt8:=List.replicate 32 0
end Tt
def Lf.zero:Lf:=⟨0,Tt.z32,Tt.z32,Tt.z32⟩
def Lf.Ok (l:Lf):Prop:=l.pub.length=32/\l.ver.length=32/\l.abv.length=32
def Lf.cells (l:Lf):List Value:=.int .i64 l.name::(bY l.pub++(bY l.ver++bY l.abv))
def Lf.same (a b:Lf):Bool:=a.name == b.name&&(a.pub == b.pub&&(a.ver == b.ver&&a.abv == b.abv))
def Pr.zero:Pr:=⟨false,Tt.z32,Tt.z32,[]⟩
def Pr.Ok (p:Pr):Prop:=p.pub.length=32/\p.abv.length=32
def Pr.cells (p:Pr)(sl:Value):List Value:=.bool p.set::(bY p.pub++(bY p.abv++[sl]))
theorem Lf.same_iff {a b:Lf}:a.same b=true↔a=b:=by
 unfold Lf.same;rw[Bool.and_eq_true,Bool.and_eq_true,Bool.and_eq_true,beq_iff_eq,beq_iff_eq,beq_iff_eq,beq_iff_eq]
 constructor
 ·rintro⟨h1,h2,h3,h4⟩
  cases a;cases b
  simp_all
 ·rintro rfl
  exact⟨rfl,rfl,rfl,rfl⟩
theorem Lf.zero_ok:Lf.zero.Ok:=⟨rfl,rfl,rfl⟩
theorem Pr.zero_ok:Pr.zero.Ok:=⟨rfl,rfl⟩
theorem Lf.cells_length {l:Lf}(h:l.Ok):l.cells.length=97:=by
 simp[Lf.cells,bZ,h.1,h.2.1,h.2.2]
theorem Pr.cells_length {p:Pr}(h:p.Ok)(sl:Value):(p.cells sl).length=66:=by
 simp[Pr.cells,bZ,h.1,h.2]
theorem Lf.size {l:Lf}(h:l.Ok):l.cells.toArray.size=97:=by rw[List.size_toArray,Lf.cells_length h]
theorem Pr.size {p:Pr}(h:p.Ok)(sl:Value):(p.cells sl).toArray.size=66:=by rw[List.size_toArray,Pr.cells_length h]
theorem Lf.all (l:Lf):l.cells.toArray.all (·.oneCell')=true:=by
 refine all_oneCell_toArray λv hv=>?_
 rcases List.mem_cons.1 hv with rfl|hv
 ·rfl
 ·rcases List.mem_append.1 hv with hv|hv
  ·exact Qan _ v hv
  ·rcases List.mem_append.1 hv with hv|hv
   ·exact Qan _ v hv
   ·exact Qan _ v hv
theorem Pr.all (p:Pr)(ad:Option Addr)(n c:Nat):(p.cells (.slice ad n c)).toArray.all (·.oneCell')=true:=by
 refine all_oneCell_toArray λv hv=>?_
 rcases List.mem_cons.1 hv with rfl|hv
 ·rfl
 ·rcases List.mem_append.1 hv with hv|hv
  ·exact Qan _ v hv
  ·rcases List.mem_append.1 hv with hv|hv
   ·exact Qan _ v hv
   ·rw[List.mem_singleton.1 hv];rfl
theorem leafInfo {cs:Array Value}(h:cs.size=97):(Tryz.prog.info? 122).map (·.size)=some cs.size:=by rw[h];kernel_rfl
theorem parentInfo {cs:Array Value}(h:cs.size=66):(Tryz.prog.info? 124).map (·.size)=some cs.size:=by rw[h];kernel_rfl
theorem Qhm (w:World):(Instr.alloc 122 true (.tuple #[])).run Tryz.prog w=.ok (.pointer (some ⟨w.heap.size,0,none⟩)) (w.alloc (.cells Lf.zero.cells.toArray 122)):=by kernel_rfl
theorem Qdy (w:World):(Instr.alloc 124 true (.tuple #[])).run Tryz.prog w=.ok (.pointer (some ⟨w.heap.size,0,none⟩)) (w.alloc (.cells (Pr.zero.cells (.slice none 0 0)).toArray 124)):=by kernel_rfl
theorem Qjz (w:World):(Instr.build 122 #[]).run Tryz.prog w=.ok (.agg Lf.zero.cells.toArray) w:=by kernel_rfl
def Lvs (w:World)(v:Value)(L:List Lf):Prop:=∃ad g o c,v=.slice ad L.length c/\(∀i (hi:i<L.length),ad=some ⟨g,o,none⟩/\g<w.heap.size/\L[i].Ok/\w.rangeAt g (o+i*97) L[i].cells)/\L.length<=c
def Pts (w:World)(v:Value)(P:List Pr):Prop:=∃ad g o c,v=.slice ad P.length c/\(∀i (hi:i<P.length),ad=some ⟨g,o,none⟩/\g<w.heap.size/\P[i].Ok/\∃sl,w.rangeAt g (o+i*66) (P[i].cells sl)/\Nums w sl P[i].loose)/\P.length<=c
theorem Nums.kept {w w':World}{v:Value}{L:List Int}(h:Nums w v L)(k:Kept w.heap.size w.heap.size w w'):Nums w' v L:=by
 obtain⟨ad,c,g,o,rfl,h1⟩:=h;refine⟨ad,c,g,o,rfl,λi hi=>?_⟩
 obtain⟨a,b,d⟩:=h1 i hi;exact⟨a,zC b k.size,(k.cell (p:=⟨g,o+i,none⟩) b (zD b)).trans d⟩
theorem Lvs.kept {w w':World}{v:Value}{L:List Lf}(h:Lvs w v L)(k:Kept w.heap.size w.heap.size w w'):Lvs w' v L:=by
 obtain⟨ad,g,o,c,rfl,h1,h2⟩:=h;refine⟨ad,g,o,c,rfl,λi hi=>?_,h2⟩
 obtain⟨a,b,e,d⟩:=h1 i hi;exact⟨a,zC b k.size,e,Qaf k d b (zD b)⟩
theorem Pts.kept {w w':World}{v:Value}{P:List Pr}(h:Pts w v P)(k:Kept w.heap.size w.heap.size w w'):Pts w' v P:=by
 obtain⟨ad,g,o,c,rfl,h1,h2⟩:=h;refine⟨ad,g,o,c,rfl,λi hi=>?_,h2⟩
 obtain⟨a,b,e,sl,d,n⟩:=h1 i hi;exact⟨a,zC b k.size,e,sl,Qaf k d b (zD b),n.kept k⟩
theorem Lvs.shape {w:World}{v:Value}{L:List Lf}(h:Lvs w v L):∃ad c,v=.slice ad L.length c:=by
 obtain⟨ad,g,o,c,rfl,_⟩:=h;exact⟨ad,c,rfl⟩
theorem Pts.shape {w:World}{v:Value}{P:List Pr}(h:Pts w v P):∃ad c,v=.slice ad P.length c:=by
 obtain⟨ad,g,o,c,rfl,_⟩:=h;exact⟨ad,c,rfl⟩
theorem Nums.shape {w:World}{v:Value}{L:List Int}(h:Nums w v L):∃ad c,v=.slice ad L.length c:=by
 obtain⟨ad,c,g,o,rfl,_⟩:=h;exact⟨ad,c,rfl⟩
theorem Kept.next1 {w w1 w2:World}(h:Kept w.heap.size w.heap.size w w1)(k:Kept w1.heap.size w1.heap.size w1 w2):Kept w.heap.size w.heap.size w w2:=
 h.trans (k.mono h.size (λ_ _ _=>by have:=h.size;omega))
theorem Qnh {w w':World}(h:w'=w):Kept w.heap.size w.heap.size w w':=by rw[h];exact Kept.refl _ _ _
section
variable {P:Program} {ops:Array Oper} {rest:List Oper} {o:Oper} {a:Act} {w:World} {Q:Exit->Act->World->Prop}
theorem Qtm (hw:Region.wanted o (yielded ops a.tmps)=true)(t t2:TypeId)(x y:Operand)(ho:o.op=.binOp .eql t x y t2)(A B:Array Value)(hx:a.eval x=.agg A)(hy:a.eval y=.agg B)(hg:P.eqGuardType P.depth t=false)(r:Bool)(hr:(Op.equalIn 10000 t (.agg A) (.agg B)).run P w=.ok r w)(hk:wpList P ops Q rest (a.put o.dst (.bool r)) w):wpList P ops Q (o::rest) a w:=by
 refine wpList_step λK hK=>?_
 rw[zG hw];unfold Oper.wp execOp;simp only[ho,hx,hy,Sem.run_bind,run_eqGuard_agg _ _ _ _ _ _ _ hg,run_eql_struct,hr,Result.andThen_ok,Sem.run_pure];exact hK _ _ hk
end
theorem Quv (w:World):(isAgg 3).run Tryz.prog w=.ok false w:=by
 unfold isAgg;simp only[Sem.run_bind,run_underlying Tryz.underlying3,Result.andThen_ok]
 rfl
theorem Qsn (w:World):(isAgg 23).run Tryz.prog w=.ok true w:=by
 unfold isAgg;simp only[Sem.run_bind,run_underlying Tryz.underlying23,Result.andThen_ok]
 rfl
theorem Qqr (w:World)(cs:Array Value)(o:Nat)(v:Value)(h:cs[o]?=some v):(part 3 cs o).run Tryz.prog w=.ok v w:=by
 simp only[part,Sem.run_bind,Quv,Result.andThen_ok,Bool.false_eq_true,if_false,h]
 rfl
theorem Qd7 (w:World)(cs:Array Value)(o:Nat)(l:List UInt8)(h:cs.extract o (o+32)=(bY l).toArray):(part 23 cs o).run Tryz.prog w=.ok (.agg (bY l).toArray) w:=by
 simp only[part,Sem.run_bind,Qsn,Result.andThen_ok,if_true,Tryz.sizeOf23,h]
 rfl
theorem Lf.at_name (l:Lf):l.cells.toArray[0]?=some (.int .i64 l.name):=by simp[Lf.cells]
theorem Lf.part_pub {l:Lf}(h:l.Ok):l.cells.toArray.extract 1 (1+32)=(bY l.pub).toArray:=by
 apply Array.ext';simp[Lf.cells,h.1,bZ]
theorem Lf.part_ver {l:Lf}(h:l.Ok):l.cells.toArray.extract 33 (33+32)=(bY l.ver).toArray:=by
 apply Array.ext';have h1:=h.1;have h2:=h.2.1;simp only[Lf.cells,List.extract_toArray,List.extract_eq_take_drop];rw[List.drop_succ_cons,List.drop_append_of_le_length (by simp[bZ,h1]),List.drop_of_length_le (by simp[bZ,h1])]
 simp[bZ,h2]
theorem Lf.part_abv {l:Lf}(h:l.Ok):l.cells.toArray.extract 65 (65+32)=(bY l.abv).toArray:=by
 apply Array.ext';have h1:=h.1;have h2:=h.2.1;simp only[Lf.cells,List.extract_toArray,List.extract_eq_take_drop];rw[List.drop_succ_cons,<-List.append_assoc,List.drop_append_of_le_length (by simp[bZ,h1,h2]),List.drop_of_length_le (by simp[bZ,h1,h2])]
 simp only[List.nil_append,Nat.add_sub_cancel_left];exact List.take_of_length_le (by simp[bZ,h.2.2])
theorem Qh0 (w:World)(a b:Lf)(ha:a.Ok)(hb:b.Ok):(Op.equalIn 10000 122 (.agg a.cells.toArray) (.agg b.cells.toArray)).run Tryz.prog w=.ok (a.same b) w:=by
 have hs:Tryz.prog.stoodInHeld 122=false:=by kernel_rfl
 have e0:∀w,(Op.equalIn 9999 3 (.int .i64 a.name) (.int .i64 b.name)).run Tryz.prog w=.ok (a.name == b.name) w:=λw=>run_equalIn_int w 9998 3 .i64 .i64 _ _ Tryz.underlying3
 have eh:∀x y:List UInt8,x.length=32->y.length=32->∀w,(Op.equalIn 9999 23 (.agg (bY x).toArray) (.agg (bY y).toArray)).run Tryz.prog w=.ok (x == y) w:=λx y hx hy w=>
  run_equalIn_bytes (P:=Tryz.prog) w 9997 23 5 32 Tryz.underlying23 Tryz.underlying5 (λw=>Tryz.sizeOf5 w) x y hx hy
 have p0:=λw=>Qqr w _ _ _ a.at_name
 have q0:=λw=>Qqr w _ _ _ b.at_name
 have p1:=λw=>Qd7 w _ _ _ (Lf.part_pub ha)
 have q1:=λw=>Qd7 w _ _ _ (Lf.part_pub hb)
 have p2:=λw=>Qd7 w _ _ _ (Lf.part_ver ha)
 have q2:=λw=>Qd7 w _ _ _ (Lf.part_ver hb)
 have p3:=λw=>Qd7 w _ _ _ (Lf.part_abv ha)
 have q3:=λw=>Qd7 w _ _ _ (Lf.part_abv hb)
 have e1:=eh _ _ ha.1 hb.1;have e2:=eh _ _ ha.2.1 hb.2.1;have e3:=eh _ _ ha.2.2 hb.2.2;rw[Op.equalIn];simp only[Sem.run_bind,run_underlying Tryz.underlying122,Result.andThen_ok,run_program,hs,Bool.false_eq_true,if_false]
 simp only[List.forIn_toArray,List.forIn_cons,List.forIn_nil,Sem.run_bind,ne_eq,String.reduceEq,not_false_eq_true,if_true];simp only[p0,q0,e0,Result.andThen_ok];unfold Lf.same;clear eh e0;generalize (a.name == b.name)=c0 at *;generalize (a.pub == b.pub)=c1 at *;generalize (a.ver == b.ver)=c2 at *;generalize (a.abv == b.abv)=c3 at *
 cases c0 <;> cases c1 <;> cases c2 <;> cases c3 <;> simp[p1,q1,e1,p2,q2,e2,p3,q3,e3]
theorem leafGuard:Tryz.prog.eqGuardType Tryz.prog.depth 122=false:=by kernel_rfl
theorem Qh3 (n:Int)(w:World):Calls Tryz.prog 84 #[.int .i64 n] w λe w'=>e=.returned (.bool (decide (1<=n)&&decide (n<=64)))/\w'=w:=by
 go_enter Tryz.func84,Tryz.ntmps84
 by_cases h:1<=n
 ·have hd:decide (n>=1)=true:=decide_eq_true h
  go_wp2;go_ret;simp[h]
 ·have hd:decide (n>=1)=false:=decide_eq_false h
  go_wp2;go_ret;simp[]
theorem Qg7 (n:Nat)(hn:n<1073741824)(w:World):Calls Tryz.prog 115 #[.int .i64 (n:Int)] w λe w'=>e=.returned (.int .i64 ((n-1:Nat):Int))/\w'=w:=by
 have h:(n:Int)<1073741824:=by omega
 go_enter Tryz.func115,Tryz.ntmps115
 go_wp2;go_ret;simp
 omega
theorem Qcf {w:World}{b:Nat}{l:Lf}{t:TypeId}(h:w.heap[b]?=some (.cells l.cells.toArray t (0,0))):w.cell? ⟨b,0,none⟩=some (.int .i64 l.name):=by
 rw[cell_of_row w b 0 _ _ _ h];simp[Lf.cells]
theorem Qgq (l:Lf)(w:World):Calls Tryz.prog 116 #[.agg l.cells.toArray] w λe w'=>e=.returned (.bool (l.name == 0))/\Kept w.heap.size w.heap.size w w':=by
 have hc:=Qcf (Qaa w (.cells l.cells.toArray 122))
 have hk:Kept w.heap.size w.heap.size w (w.alloc (.cells l.cells.toArray 122)):=zI.alloc (zB _) _
 generalize l.cells.toArray=D at hc hk |-;generalize l.name=nm at hc |-;have HK:=hid hk;clear hk
 go_enter Tryz.func116,Tryz.ntmps116
 go_wp2;go_ret;exact⟨by simp,HK.out⟩
namespace Tt
def firstBlank:List Lf->Nat
 | []=>0
 | l::L=>if l.name == 0 then 0 else firstBlank L+1
end Tt
theorem Bo.bounds (n:Nat)(x:Int):0<=Bo.First n x/\Bo.Behind n x<=(n:Int):=by
 by_cases h:Bo.there n x=true
 ·obtain⟨n',x',h1,rfl,hi,h64⟩:=Bo.there_nat h
  obtain rfl:n=n':=by omega
  obtain⟨a,m,p,b,_,_,hp,_,hle⟩:=Bo.seg_of hi h64;obtain⟨_,_,h3,h4⟩:=Bo.say hi h64 hp;rw[h3,h4]
  omega
 ·rw[Bo.First,if_neg h,Bo.Behind,if_neg h]
  omega
namespace Tt
def nameAt (L:List Lf)(x:Int):Int:=((L[x.toNat]?).map Lf.name).getD 0
def looseOk (L:List Lf)(behind:Int):Int->List Int->Bool
 | _,[]=>true
 | free,x::xs=>decide (free<=x)&&(decide (x<behind)&&(!(nameAt L x == 0)&&looseOk L behind (x+1) xs))
end Tt
theorem Qh8 (v lv:Value)(L:List Lf)(x:Int)(P:List Int)(w:World)(hL:Lvs w v L)(hP:Nums w lv P)(hn:L.length<=1000)(hp:P.length<=1000):
  Calls Tryz.prog 141 #[v,.int .i64 x,lv] w λe w'=>e=.returned (.bool (Tt.looseOk L (Bo.Behind L.length x) (Bo.First L.length x) P))/\Kept w.heap.size w.heap.size w w':=by
 obtain⟨ad,g,o,c,rfl,hc,_⟩:=hL;obtain⟨pad,pc,pg,po,rfl,hpc⟩:=hP;obtain⟨ln,hln⟩:∃ln,ln=L.length:=⟨_,rfl⟩;obtain⟨pn,hpn⟩:∃pn,pn=P.length:=⟨_,rfl⟩;have hln9:(ln:Int)<=1000:=by omega
 have hpn9:(pn:Int)<=1000:=by omega
 have HLN:=hid hln;have HPN:=hid hpn;rw[<-hln,<-hpn];have HLV:=hid (λw=>Qng lenIs (ln:Int) x w)
 have hbd:=Bo.bounds ln x;obtain⟨F,hF⟩:∃F,F=Bo.First (ln:Int) x:=⟨_,rfl⟩;obtain⟨B,hB⟩:∃B,B=Bo.Behind (ln:Int) x:=⟨_,rfl⟩;rw[<-hF,<-hB] at HLV hbd |-;obtain⟨hF0,hBn⟩:=hbd;have HC:=hid hc;have HPC:=hid hpc;have K0:=hid (Kept.refl w.heap.size w.heap.size w);have HB0:=hid hBn;have HF0:=hid hF0;clear hc hpc hln hpn hn hp hF hB
 go_enter Tryz.func141,Tryz.ntmps141
 go_upto_region 2 with(go_at_call 162;refine(HLV.out _).mono ?_;rintro e w1 ⟨rfl,k1⟩)
 have K1:=hid (K0.out.next1 k1);clear k1;clear hF0 hBn
 go_wp2_with fail
 go_loopw [7,20] (λs7 s20 wr=>∃i:Nat,s20=.int .i64 (i:Int)/\∃fr:Int,s7=.int .i64 fr/\Hid (i<=pn)/\Hid (0<=fr)/\Hid (Tt.looseOk L B F P=Tt.looseOk L B fr (P.drop i))/\Hid (Kept w.heap.size w.heap.size w wr)) (λ_ s20 _=>pn-(RowKit.intOf s20).toNat)
 case atStart=>exact⟨0,rfl,F,rfl,hid (Nat.zero_le _),HF0,hid rfl,K1⟩
 case round=>
  obtain⟨i,rfl,fr,rfl,hi,HFR,HEQ,HK⟩:=hrel
  by_cases hlt:i<pn
  ·have hiL:i<P.length:=by rw[<-HPN.out];exact hlt
   obtain⟨rfl,hg,hx⟩:=HPC.out i hiL;have hlti:(i:Int)<(pn:Int):=by omega
   have hi0:¬(i:Int)<0:=by omega
   have hcx:=(HK.out.cell (p:=⟨pg,po+i,none⟩) hg (zD hg)).trans hx;have hst:Tt.looseOk L B F P=Tt.looseOk L B fr (P[i]::P.drop (i+1)):=by rw[HEQ.out,List.drop_eq_getElem_cons hiL]
   generalize P[i]=y at hcx hst;have HST:=hid hst;have HLT:=hid hlt;clear hst hlt hi hg hx hiL
   go_upto_region 5 with fail
   by_cases h1:y<fr
   ·have H1:=hid h1
    refine zA ?_;iterate 4(refine wW λK hK=>?_;go_simp;apply hK;clear hK K)
    (iterate 3(refine @wpList_skip _ _ _ _ _ _ _ ?_ ?_;kernel_rfl;simp only[Act.put,sA,sB,sC]));iterate 2(refine wW λK hK=>?_;go_simp;apply hK;clear hK K)
    (iterate 5(refine @wpList_skip _ _ _ _ _ _ _ ?_ ?_;kernel_rfl;simp only[Act.put,sA,sB,sC]));refine wW λK hK=>?_;go_simp;apply hK;clear hK K;clear h1;go_wp2;go_ret;refine⟨?_,HK.out⟩
    have hf:Tt.looseOk L B F P=false:=by
     rw[HST.out];unfold Tt.looseOk;have:=H1.out;simp;omega
    rw[hf];rfl
   ·have H1:=hid h1
    by_cases h2:y<B
    ·have H2:=hid h2
     have h2':¬y>=B:=by omega
     have hy0:0<=y:=by have:=HFR.out;omega
     obtain⟨p,rfl⟩:∃p:Nat,y=(p:Int):=⟨y.toNat,by omega⟩
     have hpl:p<L.length:=by have:=HB0.out;have:=HLN.out;omega
     obtain⟨rfl,hg2,hok,hr⟩:=HC.out p hpl;have hpi:(p:Int)<(ln:Int):=by have:=HB0.out;omega
     have hp0:¬(p:Int)<0:=by omega
     have hpB:(p:Int)<=1000:=by omega
     have hnm:Tt.nameAt L (p:Int)=L[p].name:=by
      unfold Tt.nameAt;rw[Int.toNat_natCast,List.getElem?_eq_getElem hpl]
      rfl
     have HIB:=hid (Qgq L[p]);have HLD:=hid (run_loadVar_mid wr g (o+p*97) 122 L[p].cells _ (Qaf HK.out hr hg2 (zD hg2)) Tryz.underlying122 rfl (by have:=leafInfo (Lf.size hok);simpa using this))
     rw[<-hnm] at HIB;obtain⟨D,hD⟩:∃D,D=L[p].cells.toArray:=⟨_,rfl⟩;rw[<-hD] at HIB HLD;obtain⟨nm,hN⟩:∃nm,nm=Tt.nameAt L (p:Int):=⟨_,rfl⟩;rw[<-hN] at HIB;have HN:=hid hN;clear hD hr hok hnm hg2 hpl hN hy0;refine zA ?_;iterate 12(refine wW λK hK=>?_;go_simp;apply hK;clear hK K)
     refine wLk 122 (.tmp 35) rfl (g) (o+p*97) rfl (.agg D) (HLD.out) ?_
     simp only[Act.put,sA,sB,sC];refine wW λK hK=>?_;go_simp;go_at_call 116
     refine(HIB.out _).mono ?_;rintro e w3 ⟨rfl,k3⟩;have K3:=hid (HK.out.next1 k3);clear k3;apply hK;clear hK K;refine wW λK hK=>?_;go_simp;apply hK;clear hK K;clear h1 h2 h2'
     by_cases hz:nm=0
     ·have hz':(nm == 0)=true:=by rw[beq_iff_eq];exact hz
      have HZ:=hid hz;clear hz;go_wp2;go_ret;refine⟨?_,K3.out⟩
      have hf:Tt.looseOk L B F P=false:=by
       rw[HST.out];unfold Tt.looseOk;have:=HZ.out;rw[HN.out] at this;simp[this]
      rw[hf];rfl
     ·have hz':(nm == 0)=false:=by rw[beq_eq_false_iff_ne];exact hz
      have HZ:=hid hz';clear hz;go_wp2
      go_roundw
      case rel=>exact⟨i+1,by simp,(p:Int)+1,rfl,hid HLT.out,hid (by omega),hid (by
       rw[HST.out,Tt.looseOk,decide_eq_true (show fr<=(p:Int) by have:=H1.out;omega),decide_eq_true H2.out,<-HN.out,HZ.out]
       rfl),K3⟩
      case measure=>have:=HLT.out;simp[RowKit.intOf];omega
    ·have H2:=hid h2
     have h2':y>=B:=by omega
     refine zA ?_;iterate 9(refine wW λK hK=>?_;go_simp;apply hK;clear hK K)
     (iterate 5(refine @wpList_skip _ _ _ _ _ _ _ ?_ ?_;kernel_rfl;simp only[Act.put,sA,sB,sC]));refine wW λK hK=>?_;go_simp;apply hK;clear hK K;clear h1 h2 h2';go_wp2;go_ret;refine⟨?_,HK.out⟩
     have hf:Tt.looseOk L B F P=false:=by
      rw[HST.out];unfold Tt.looseOk;have:=H2.out;simp;omega
     rw[hf];rfl
  ·have hnl:¬(i:Int)<(pn:Int):=by omega
   have HE:=hid (show i=pn by have:=hi.out;omega)
   clear hlt hi;go_wp2;go_ret;refine⟨?_,HK.out⟩
   have h1:Tt.looseOk L B F P=true:=by
    rw[HEQ.out,List.drop_of_length_le (by rw[HE.out,HPN.out];exact zB _)]
    rfl
   rw[h1];rfl
namespace Tt
def leavesOk:List Int->List Lf->Bool
 | _,[]=>true
 | M,l::L=>if l.same Lf.zero then leavesOk M L else(decide (1<=l.name)&&(decide (l.name<=64)&&(!M.contains l.name&&leavesOk (l.name::M) L)))
def met (M:List Int):List Value:=(List.range 65).map (λ(k:Nat)=>.bool (M.contains (k:Int)))
theorem Qg9 (M:List Int):(met M).length=65:=by simp[met]
theorem met_at (M:List Int)(k:Nat)(hk:k<65):(met M)[k]?=some (.bool (M.contains (k:Int))):=by
 simp[met,hk]
theorem met_set (M:List Int)(k:Nat)(hk:k<65):(met M).set k (.bool true)=met ((k:Int)::M):=by
 apply List.ext_getElem?;intro j;rw[List.getElem?_set]
 by_cases hj:j<65
 ·rw[met_at _ j hj,met_at _ j hj,Qg9]
  by_cases h:k=j
  ·subst h
   rw[zG rfl,zG hk];simp
  ·rw[if_neg h]
   have:¬(j:Int)=(k:Int):=by omega
   simp[this]
 ·rw[if_neg (by omega),List.getElem?_eq_none (by rw[Qg9];omega),List.getElem?_eq_none (by rw[Qg9];omega)]
end Tt
theorem Qvl (w:World):(Instr.alloc 215 true (.tuple #[])).run Tryz.prog w=.ok (.pointer (some ⟨w.heap.size,0,none⟩)) (w.alloc (.cells (Tt.met []).toArray 215)):=by kernel_rfl
theorem Ql1 {w:World}{g o:Nat}{n:Int}(h:w.cell? ⟨g,o,none⟩=some (.int .i64 n)):(loadVar 3 ⟨g,o,none⟩).run Tryz.prog w=.ok (.int .i64 n) w:=by
 go_simp
theorem Qg4 (v:Value)(L:List Lf)(w:World)(hL:Lvs w v L)(hn:L.length<=1000):
  Calls Tryz.prog 117 #[v] w λe w'=>e=.returned (.bool (Tt.leavesOk [] L))/\Kept w.heap.size w.heap.size w w':=by
 obtain⟨ad,g,o,c,rfl,hc,_⟩:=hL;obtain⟨ln,hln⟩:∃ln,ln=L.length:=⟨_,rfl⟩;have hln9:(ln:Int)<=1000:=by omega
 have HLN:=hid hln;rw[<-hln];have HC:=hid hc;have hk1:Kept w.heap.size w.heap.size w (w.alloc (.cells (Tt.met []).toArray 215)):=zI.alloc (zB _) _
 have hm1:=Qaa w (.cells (Tt.met []).toArray 215)
 have K1:=hid hk1;have M1:=hid hm1;have HZI:=hid (leafInfo (Lf.size Lf.zero_ok));have HZS:=hid (Lf.size Lf.zero_ok);clear hc hln hn hk1 hm1
 go_enter Tryz.func117,Tryz.ntmps117
 go_upto_region 1 with fail
 refine zA ?_;refine @Qas _ _ _ _ _ _ _ _ ?_ 215 rfl _ (Qvl _) ?_;kernel_rfl
 simp only[Act.put,sA,sB,sC];generalize w.alloc (.cells (Tt.met []).toArray 215)=w1 at K1 M1 |-
 obtain⟨mb,hmb⟩:∃mb,mb=w.heap.size:=⟨_,rfl⟩;rw[<-hmb] at M1 |-;have HMB:=hid hmb;clear hmb
 go_wp2_with fail
 go_loopw [8] (λs8 wr=>∃i:Nat,s8=.int .i64 (i:Int)/\∃M:List Int,Hid (i<=ln)/\Hid (Tt.leavesOk [] L=Tt.leavesOk M (L.drop i))/\Hid (wr.heap[mb]?=some (.cells (Tt.met M).toArray 215 (0,0)))/\Hid (Kept w.heap.size w.heap.size w wr)) (λs8 _=>ln-(RowKit.intOf s8).toNat)
 case atStart=>exact⟨0,rfl,[],hid (Nat.zero_le _),hid rfl,M1,K1⟩
 case round=>
  obtain⟨i,rfl,M,hi,HEQ,HM,HK⟩:=hrel
  by_cases hlt:i<ln
  ·have hiL:i<L.length:=by rw[<-HLN.out];exact hlt
   obtain⟨rfl,hg,hok,hr⟩:=HC.out i hiL;have hlti:(i:Int)<(ln:Int):=by omega
   have hi0:¬(i:Int)<0:=by omega
   have hst:Tt.leavesOk [] L=Tt.leavesOk M (L[i]::L.drop (i+1)):=by rw[HEQ.out,List.drop_eq_getElem_cons hiL]
   have HLA:=hid (run_loadVar_mid wr g (o+i*97) 122 L[i].cells _ (Qaf HK.out hr hg (zD hg)) Tryz.underlying122 rfl (by have:=leafInfo (Lf.size hok);simpa using this))
   clear hr;generalize L[i]=l at hst HLA hok;have HST:=hid hst;have HSZ:=hid (leafInfo (Lf.size hok));have HS0:=hid (show Lf.zero.cells.toArray.size=l.cells.toArray.size by rw[Lf.size hok,Lf.size Lf.zero_ok])
   have HAL:=hid l.all;have heq0:=λw=>Qh0 w l Lf.zero hok Lf.zero_ok
   have HNC:=hid (λ(x:World) (b:Nat) (h:x.heap[b]?=some (.cells l.cells.toArray 122 (0,0)))=>Qcf h)
   have HLT:=hid hlt;obtain⟨D,hD⟩:∃D,D=l.cells.toArray:=⟨_,rfl⟩;obtain⟨Z,hZ⟩:∃Z,Z=Lf.zero.cells.toArray:=⟨_,rfl⟩;rw[<-hD] at HLA HSZ HS0 HAL HNC;rw[<-hZ] at HS0;simp only[<-hD,<-hZ] at heq0;have HBZ:=hid (λw=>show(Instr.build 122 #[]).run Tryz.prog w=.ok (.agg Z) w by rw[hZ];exact Qjz w)
   have HAZ:=hid (λw=>show(Instr.alloc 122 true (.tuple #[])).run Tryz.prog w=.ok (.pointer (some ⟨w.heap.size,0,none⟩)) (w.alloc (.cells Z 122)) by rw[hZ];exact Qhm w)
   clear hst hok hlt hi hg hD hiL
   go_upto_region 4 with fail
   refine zA ?_;refine wW λK hK=>?_;go_simp;apply hK;clear hK K;refine wLk 122 (.tmp 10) rfl (g) (o+i*97) rfl (.agg D) (HLA.out) ?_
   simp only[Act.put,sA,sB,sC];refine @Qas _ _ _ _ _ _ _ _ ?_ 122 rfl _ (HAZ.out _) ?_;kernel_rfl
   simp only[Act.put,sA,sB,sC];refine wpList_store_row rfl 122 _ _ rfl (wr.heap.size) D rfl rfl 122 Z (Qaa _ _) (HSZ.out) (HS0.out) (HAL.out) ?_
   simp only[Act.put];rw[World.setRow_alloc_new];have kk:Kept wr.heap.size wr.heap.size wr (wr.alloc (.cells D 122)):=zI.alloc (zB _) _
   have K2:=hid (HK.out.next1 kk);have M2:=hid (rk HM.out kk);have L2:=hid (Qaa wr (.cells D 122))
   have HLB:=hid (zF HM.out);clear kk;generalize wr.alloc (.cells D 122)=w2 at K2 M2 L2 |-
   obtain⟨lb,hlb⟩:∃lb,lb=wr.heap.size:=⟨_,rfl⟩;rw[<-hlb] at L2 HLB |-;clear hlb;have HQ0:=hid heq0;clear heq0 hZ
   go_upto_region 5 with fail
   refine zA ?_;refine wLk 122 (.tmp 5) rfl (lb) (0) rfl (.agg D) (run_loadVar_row w2 lb 122 122 D (0,0) _ L2.out Tryz.underlying122 rfl HSZ.out) ?_
   simp only[Act.put,sA,sB,sC];refine @Qap _ _ _ _ _ _ _ ?_ 122 rfl _ (HBZ.out _) ?_;kernel_rfl
   simp only[Act.put,sA,sB,sC];refine @Qtm _ _ _ _ _ _ _ ?_ _ _ _ _ rfl (D) (Z) rfl rfl leafGuard (l.same Lf.zero) (HQ0.out w2) ?_;kernel_rfl;simp only[Act.put,sA,sB,sC]
   by_cases hz:l.same Lf.zero=true
   ·rw[hz]
    have HZ:=hid hz;clear hz;go_wp2
    go_roundw
    case rel=>exact⟨i+1,by simp,M,hid HLT.out,hid (by rw[HST.out,Tt.leavesOk,zG HZ.out]),M2,K2⟩
    case measure=>have:=HLT.out;simp[RowKit.intOf];omega
   ·rw[Bool.not_eq_true] at hz
    rw[hz];have HZ:=hid hz;have hnc:=HNC.out w2 lb L2.out;have HNM:=hid (λw=>Qh3 l.name w)
    clear hz
    by_cases h1:1<=l.name/\l.name<=64
    ·obtain⟨k,hk⟩:∃k:Nat,l.name=(k:Int):=⟨l.name.toNat,by omega⟩
     have hd:(decide (1<=l.name)&&decide (l.name<=64))=true:=by rw[Bool.and_eq_true,decide_eq_true_iff,decide_eq_true_iff];exact h1
     rw[hd] at HNM;rw[hk] at hnc HNM;have HKN:=hid hk;have hk65:k<65:=by omega
     have hk1:(k:Int)<65:=by omega
     have hk0:¬(k:Int)<0:=by omega
     have HK65:=hid hk65;have H1:=hid h1;have hmc:=Qag (j:=k) M2.out (Tt.met_at M k hk65);have hmf:=Qa0 M2.out k;clear hd hk hk65 h1;obtain⟨mt,hmt⟩:∃mt,mt=M.contains (k:Int):=⟨_,rfl⟩;rw[<-hmt] at hmc;have HMT:=hid hmt;clear hmt
     cases mt with
     | true=>
      go_upto_region 6 with fail
      refine zA ?_;iterate 2(refine wW λK hK=>?_;go_simp;apply hK;clear hK K)
      refine wW λK hK=>?_;go_simp;go_at_call 84
      refine(HNM.out _).mono ?_;rintro e w9 ⟨rfl,hw9⟩;subst w9;apply hK;clear hK K;iterate 7(refine wW λK hK=>?_;go_simp;apply hK;clear hK K)
      clear hmc hmf;go_wp2;go_ret;refine⟨?_,K2.out⟩
      have hf:Tt.leavesOk [] L=false:=by
       rw[HST.out,Tt.leavesOk,if_neg (by rw[HZ.out];exact Bool.false_ne_true)]
       rw[HKN.out,<-HMT.out];simp
      rw[hf];rfl
     | false=>
      go_upto_region 6 with fail
      refine zA ?_;iterate 2(refine wW λK hK=>?_;go_simp;apply hK;clear hK K)
      refine wW λK hK=>?_;go_simp;go_at_call 84
      refine(HNM.out _).mono ?_;rintro e w9 ⟨rfl,hw9⟩;subst w9;apply hK;clear hK K;iterate 7(refine wW λK hK=>?_;go_simp;apply hK;clear hK K)
      clear hmc;have M3:=hid (Qaj M2.out k (.bool true));rw[Tt.met_set M k HK65.out] at M3;have K3:=hid (K2.out.set (b':=mb) (.inr (by rw[HMB.out];exact zB _)) k (.bool true))
      have hmc:=Qag (j:=k) M2.out (Tt.met_at M k HK65.out);go_wp2
      go_roundw
      case rel=>exact⟨i+1,by simp,(k:Int)::M,hid HLT.out,hid (by
       rw[HST.out,Tt.leavesOk,if_neg (by rw[HZ.out];exact Bool.false_ne_true),decide_eq_true H1.out.1,decide_eq_true H1.out.2,HKN.out,<-HMT.out]
       rfl),M3,K3⟩
      case measure=>have:=HLT.out;simp[RowKit.intOf];omega
    ·have hd:(decide (1<=l.name)&&decide (l.name<=64))=false:=by rw[Bool.and_eq_false_iff,decide_eq_false_iff_not,decide_eq_false_iff_not];omega
     rw[hd] at HNM;have H1:=hid h1;obtain⟨nm,hnm⟩:∃nm,nm=l.name:=⟨_,rfl⟩;rw[<-hnm] at hnc HNM;clear hd h1 hnm
     go_upto_region 6 with fail
     refine zA ?_;iterate 2(refine wW λK hK=>?_;go_simp;apply hK;clear hK K)
     refine wW λK hK=>?_;go_simp;go_at_call 84
     refine(HNM.out _).mono ?_;rintro e w9 ⟨rfl,hw9⟩;subst w9;apply hK;clear hK K;iterate 2(refine wW λK hK=>?_;go_simp;apply hK;clear hK K)
     (iterate 4(refine @wpList_skip _ _ _ _ _ _ _ ?_ ?_;kernel_rfl;simp only[Act.put,sA,sB,sC]));refine wW λK hK=>?_;go_simp;apply hK;clear hK K;go_wp2;go_ret;refine⟨?_,K2.out⟩
     have hf:Tt.leavesOk [] L=false:=by
      rw[HST.out,Tt.leavesOk,if_neg (by rw[HZ.out];exact Bool.false_ne_true)]
      have:=H1.out
      by_cases h2:1<=l.name
      ·have h3:¬l.name<=64:=λh=>this ⟨h2,h⟩
       simp[h3]
      ·simp[h2]
     rw[hf];rfl
  ·have hnl:¬(i:Int)<(ln:Int):=by omega
   have HE:=hid (show i=ln by have:=hi.out;omega)
   clear hlt hi;go_wp2;go_ret;refine⟨?_,HK.out⟩
   have h1:Tt.leavesOk [] L=true:=by
    rw[HEQ.out,List.drop_of_length_le (by rw[HE.out,HLN.out];exact zB _)]
    rfl
   rw[h1];rfl
namespace Tt
def parentOk (L:List Lf)(i:Nat)(p:Pr):Bool:=
 if p.set then looseOk L (Bo.Behind L.length (2*i+1:Nat)) (Bo.First L.length (2*i+1:Nat)) p.loose else p.pub == z32&&(p.abv == z32&&p.loose.length == 0)
def parentsOk (L:List Lf):Nat->List Pr->Bool
 | _,[]=>true
 | i,p::P=>parentOk L i p&&parentsOk L (i+1) P
end Tt
theorem Qmi:zY = (bY Tt.z32).toArray:=rfl
theorem Qbz (w:World):(Instr.build 23 #[]).run Tryz.prog w=.ok (.agg zY) w:=by kernel_rfl
theorem hashInfoT {cs:List Value}(h:cs.length=32):(Tryz.prog.info? 23).map (·.size)=some cs.length:=by rw[h];kernel_rfl
section
variable {w:World} {b:Nat} {p:Pr} {sl:Value} {t:TypeId}
theorem Qqq (h:w.heap[b]?=some (.cells (p.cells sl).toArray t (0,0))):w.cell? ⟨b,0,none⟩=some (.bool p.set):=by
 rw[cell_of_row w b 0 _ _ _ h];simp[Pr.cells]
theorem Qek (hok:p.Ok)(h:w.heap[b]?=some (.cells (p.cells sl).toArray t (0,0))):w.cell? ⟨b,65,none⟩=some sl:=by
 rw[cell_of_row w b 65 _ _ _ h];simp[Pr.cells,bZ,hok.1,hok.2]
theorem Qw0 (_hok:p.Ok)(h:w.heap[b]?=some (.cells (p.cells sl).toArray t (0,0))):w.rangeAt b 1 (bY p.pub):=λj v hj=>by
 rw[cell_of_row w b (1+j) _ _ _ h,Nat.add_comm];have hl:j<(bY p.pub).length:=(List.getElem?_eq_some_iff.1 hj).1;simp only[Pr.cells,List.getElem?_toArray,List.getElem?_cons_succ];rw[List.getElem?_append_left hl,hj]
theorem Qw1 (hok:p.Ok)(h:w.heap[b]?=some (.cells (p.cells sl).toArray t (0,0))):w.rangeAt b 33 (bY p.abv):=λj v hj=>by
 rw[cell_of_row w b (33+j) _ _ _ h];have hl:j<(bY p.abv).length:=(List.getElem?_eq_some_iff.1 hj).1;have h1:(bY p.pub).length=32:=by rw[bZ,hok.1]
 simp only[Pr.cells,List.getElem?_toArray];rw[show 33+j=(32+j)+1 by omega,List.getElem?_cons_succ,List.getElem?_append_right (by omega),h1,Nat.add_sub_cancel_left,List.getElem?_append_left hl,hj]
end
theorem Qgf (lv pv:Value)(L:List Lf)(P:List Pr)(w:World)(hL:Lvs w lv L)(hP:Pts w pv P)(hn:L.length<=1000)(hp:P.length<=1000)(hpl:∀p∈P,p.loose.length<=1000):
  Calls Tryz.prog 118 #[.agg #[lv,pv]] w λe w'=>e=.returned (.bool (Tt.parentsOk L 0 P))/\Kept w.heap.size w.heap.size w w':=by
 obtain⟨lad,lc,rfl⟩:=hL.shape;obtain⟨ad,g,o,c,rfl,hc,_⟩:=hP;obtain⟨pn,hpn⟩:∃pn,pn=P.length:=⟨_,rfl⟩;have hpn9:(pn:Int)<=1000:=by omega
 have HPN:=hid hpn;rw[<-hpn];have HC:=hid hc;have HPL:=hid hpl;have HRL:=hid (λ(x:World) (k:Kept w.heap.size w.heap.size w x) (v:Value) (y:Int) (Q:List Int) (hQ:Nums x v Q) (hq:Q.length<=1000)=>Qh8 _ v L y Q x (hL.kept k) hQ hn hq)
 obtain⟨ln,hln⟩:∃ln,ln=L.length:=⟨_,rfl⟩;rw[<-hln] at HRL |-;have HLN:=hid hln;clear hc hpn hn hp hpl hL hln;have hk1:Kept w.heap.size w.heap.size w (w.alloc (.cells #[.slice lad ln lc,.slice ad pn c] 45)):=zI.alloc (zB _) _
 have ht1:=Qaa w (.cells #[.slice lad ln lc,.slice ad pn c] 45)
 have K1:=hid hk1;have T1:=hid ht1;clear hk1 ht1
 go_enter Tryz.func118,Tryz.ntmps118
 go_upto_region 1 with fail
 generalize w.alloc (.cells #[.slice lad ln lc,.slice ad pn c] 45)=w1 at K1 T1 |-
 obtain⟨tb,htb⟩:∃tb,tb=w.heap.size:=⟨_,rfl⟩;rw[<-htb] at T1 |-;clear htb;have c1:=Qab T1.out
 go_wp2_with fail
 clear c1
 go_loopw [8] (λs8 wr=>∃i:Nat,s8=.int .i64 (i:Int)/\Hid (i<=pn)/\Hid (Tt.parentsOk L 0 P=Tt.parentsOk L i (P.drop i))/\Hid (wr.heap[tb]?=some (.cells #[.slice lad ln lc,.slice ad pn c] 45 (0,0)))/\Hid (Kept w.heap.size w.heap.size w wr)) (λs8 _=>pn-(RowKit.intOf s8).toNat)
 case atStart=>exact⟨0,rfl,hid (Nat.zero_le _),hid rfl,T1,K1⟩
 case round=>
  obtain⟨i,rfl,hi,HEQ,HTB,HK⟩:=hrel
  by_cases hlt:i<pn
  ·have hiL:i<P.length:=by rw[<-HPN.out];exact hlt
   obtain⟨rfl,hg,hok,sl,hr,hns⟩:=HC.out i hiL;obtain⟨sad,sc,rfl⟩:=hns.shape;have hlti:(i:Int)<(pn:Int):=by omega
   have hi0:¬(i:Int)<0:=by omega
   have hst:Tt.parentsOk L 0 P=Tt.parentsOk L i (P[i]::P.drop (i+1)):=by rw[HEQ.out,List.drop_eq_getElem_cons hiL]
   have hlo:=HPL.out _ (List.getElem_mem hiL);have HLA:=hid (run_loadVar_mid wr g (o+i*66) 124 (P[i].cells (.slice sad P[i].loose.length sc)) _ (Qaf HK.out hr hg (zD hg)) Tryz.underlying124 rfl (by have:=parentInfo (Pr.size hok (.slice sad P[i].loose.length sc));simpa using this))
   have HNS:=hid (hns.kept HK.out);clear hr hns;generalize P[i]=p at hst HLA hok HNS hlo;have HLT:=hid hlt;have HOK:=hid hok;have HLO:=hid hlo;have HST:=hid hst;obtain⟨qn,hqn⟩:∃qn,qn=p.loose.length:=⟨_,rfl⟩;rw[<-hqn] at HLA HNS;have HQN:=hid hqn;have hqn9:(qn:Int)<=1000:=by omega
   have HSZ:=hid (parentInfo (Pr.size hok (.slice sad qn sc)));have HS0:=hid (show(Pr.zero.cells (.slice none 0 0)).toArray.size=(p.cells (.slice sad qn sc)).toArray.size by rw[Pr.size hok,Pr.size Pr.zero_ok])
   have HAL:=hid (p.all sad qn sc);obtain⟨D,hD⟩:∃D,D=(p.cells (.slice sad qn sc)).toArray:=⟨_,rfl⟩;have HD:=hid hD;rw[<-hD] at HLA HSZ HS0 HAL;obtain⟨Z,hZ⟩:∃Z,Z=(Pr.zero.cells (.slice none 0 0)).toArray:=⟨_,rfl⟩;rw[<-hZ] at HS0;have HAZ:=hid (λw=>show(Instr.alloc 124 true (.tuple #[])).run Tryz.prog w=.ok (.pointer (some ⟨w.heap.size,0,none⟩)) (w.alloc (.cells Z 124)) by rw[hZ];exact Qdy w)
   clear hst hok hlt hi hg hD hZ hiL hlo hqn
   go_upto_region 3 with fail
   refine zA ?_;iterate 2(refine wW λK hK=>?_;go_simp;apply hK;clear hK K)
   refine wLk 124 (.tmp 11) rfl (g) (o+i*66) rfl (.agg D) (HLA.out) ?_
   simp only[Act.put,sA,sB,sC];refine @Qas _ _ _ _ _ _ _ _ ?_ 124 rfl _ (HAZ.out _) ?_;kernel_rfl
   simp only[Act.put,sA,sB,sC];refine wW λK hK=>?_;go_simp;apply hK;clear hK K;refine wpList_store_row rfl 124 _ _ rfl (wr.heap.size) D rfl rfl 124 Z (Qaa _ _) (HSZ.out) (HS0.out) (HAL.out) ?_
   simp only[Act.put];rw[World.setRow_alloc_new];have kk:Kept wr.heap.size wr.heap.size wr (wr.alloc (.cells D 124)):=zI.alloc (zB _) _
   have K2:=hid (HK.out.next1 kk);have T2:=hid (rk HTB.out kk);have L2:=hid (Qaa wr (.cells D 124))
   have N2:=hid (HNS.out.kept kk);clear kk;generalize wr.alloc (.cells D 124)=w2 at K2 T2 L2 N2 |-
   obtain⟨lb,hlb⟩:∃lb,lb=wr.heap.size:=⟨_,rfl⟩;rw[<-hlb] at L2 |-;clear hlb;rw[HD.out] at L2;have c0:=Qqq L2.out;have c65:=Qek HOK.out L2.out;have t0:=Qac T2.out;obtain⟨st,hst⟩:∃st,st=p.set:=⟨_,rfl⟩;rw[<-hst] at c0;have HSE:=hid hst;clear hst
   cases st with
   | true=>
    have hxi:IntKind.i64.wrap (IntKind.i64.wrap (2*(i:Int))+1)=((2*i+1:Nat):Int):=by
     rw[show IntKind.i64.wrap (2*(i:Int))=2*(i:Int) by rw[IntKind.wrap_i64];omega,IntKind.wrap_i64]
     omega
    obtain⟨ok,hok⟩:∃ok,ok=Tt.parentOk L i p:=⟨_,rfl⟩;have HX:Hid (ok=Tt.looseOk L (Bo.Behind (ln:Int) ((2*i+1:Nat):Int)) (Bo.First (ln:Int) ((2*i+1:Nat):Int)) p.loose):=hid (by rw[hok,Tt.parentOk,<-HSE.out,zG rfl,HLN.out])
    have HO:=hid hok;clear hok
    go_upto_region 5 with fail
    refine zA ?_;iterate 7(refine wW λK hK=>?_;go_simp;apply hK;clear hK K)
    refine wW λK hK=>?_;go_simp;go_at_call 141
    (try rw[hxi])
    have hcl:=(HRL.out w2 K2.out _ ((2*i+1:Nat):Int) p.loose N2.out HLO.out);rw[<-HX.out] at hcl;refine hcl.mono ?_;rintro e w3 ⟨rfl,k3⟩;clear hcl;have K3:=hid (K2.out.next1 k3);have T3:=hid (rk T2.out k3);clear k3;apply hK;clear hK K;refine wW λK hK=>?_;go_simp;apply hK;clear hK K;clear c0 c65 t0 hxi
    cases ok with
    | true=>
     go_wp2
     go_roundw
     case rel=>exact⟨i+1,by simp,hid HLT.out,hid (by rw[HST.out,Tt.parentsOk,<-HO.out];rfl),T3,K3⟩
     case measure=>have:=HLT.out;simp[RowKit.intOf];omega
    | false=>
     go_wp2;go_ret;refine⟨?_,K3.out⟩;have hf:Tt.parentsOk L 0 P=false:=by rw[HST.out,Tt.parentsOk,<-HO.out];rfl
     rw[hf];rfl
   | false=>
    have HPB:=hid (run_loadVar_mid w2 lb 1 23 (bY p.pub) _ (Qw0 HOK.out L2.out) Tryz.underlying23 rfl (hashInfoT (by rw[bZ,HOK.out.1])))
    have HAB:=hid (run_loadVar_mid w2 lb 33 23 (bY p.abv) _ (Qw1 HOK.out L2.out) Tryz.underlying23 rfl (hashInfoT (by rw[bZ,HOK.out.2])))
    have he1:=λw=>Qdv w p.pub Tt.z32 HOK.out.1 rfl
    have he2:=λw=>Qdv w p.abv Tt.z32 HOK.out.2 rfl
    rw[<-Qmi] at he1 he2;obtain⟨DP,hDP⟩:∃DP,DP=(bY p.pub).toArray:=⟨_,rfl⟩;obtain⟨DA,hDA⟩:∃DA,DA=(bY p.abv).toArray:=⟨_,rfl⟩;rw[<-hDP] at HPB he1;rw[<-hDA] at HAB he2;obtain⟨bp,hbp⟩:∃bp,bp=(p.pub == Tt.z32):=⟨_,rfl⟩;obtain⟨ba,hba⟩:∃ba,ba=(p.abv == Tt.z32):=⟨_,rfl⟩;rw[<-hbp] at he1;rw[<-hba] at he2;have gd:Tryz.prog.eqGuardType Tryz.prog.depth 23=false:=Qha
    have HBP:=hid hbp;have HBA:=hid hba;clear hDP hDA hbp hba
    cases bp with
    | false=>
     clear he2
     go_upto_region 7 with fail
     refine zA ?_;refine wW λK hK=>?_;go_simp;apply hK;clear hK K;refine wLk 23 (.tmp 24) rfl (lb) (1) rfl (.agg DP) (HPB.out) ?_
     simp only[Act.put,sA,sB,sC];refine @Qap _ _ _ _ _ _ _ ?_ 23 rfl _ (Qbz _) ?_;kernel_rfl
     simp only[Act.put,sA,sB,sC];iterate 2(refine wW λK hK=>?_;go_simp;apply hK;clear hK K)
     (iterate 4(refine @wpList_skip _ _ _ _ _ _ _ ?_ ?_;kernel_rfl;simp only[Act.put,sA,sB,sC]));iterate 2(refine wW λK hK=>?_;go_simp;apply hK;clear hK K)
     (iterate 4(refine @wpList_skip _ _ _ _ _ _ _ ?_ ?_;kernel_rfl;simp only[Act.put,sA,sB,sC]));refine wW λK hK=>?_;go_simp;apply hK;clear hK K;clear he1 gd c0 c65 t0;go_wp2;go_ret;refine⟨?_,K2.out⟩;have hf:Tt.parentsOk L 0 P=false:=by rw[HST.out,Tt.parentsOk,show Tt.parentOk L i p=false by rw[Tt.parentOk,<-HSE.out,if_neg Bool.false_ne_true,<-HBP.out];rfl];rfl
     rw[hf];rfl
    | true=>
     cases ba with
     | false=>
      go_upto_region 7 with fail
      refine zA ?_;refine wW λK hK=>?_;go_simp;apply hK;clear hK K;refine wLk 23 (.tmp 24) rfl (lb) (1) rfl (.agg DP) (HPB.out) ?_
      simp only[Act.put,sA,sB,sC];refine @Qap _ _ _ _ _ _ _ ?_ 23 rfl _ (Qbz _) ?_;kernel_rfl
      simp only[Act.put,sA,sB,sC];iterate 3(refine wW λK hK=>?_;go_simp;apply hK;clear hK K)
      refine wLk 23 (.tmp 29) rfl (lb) (33) rfl (.agg DA) (HAB.out) ?_
      simp only[Act.put,sA,sB,sC];refine @Qap _ _ _ _ _ _ _ ?_ 23 rfl _ (Qbz _) ?_;kernel_rfl
      simp only[Act.put,sA,sB,sC];iterate 3(refine wW λK hK=>?_;go_simp;apply hK;clear hK K)
      (iterate 4(refine @wpList_skip _ _ _ _ _ _ _ ?_ ?_;kernel_rfl;simp only[Act.put,sA,sB,sC]));refine wW λK hK=>?_;go_simp;apply hK;clear hK K;clear he1 he2 gd c0 c65 t0;go_wp2;go_ret;refine⟨?_,K2.out⟩;have hf:Tt.parentsOk L 0 P=false:=by rw[HST.out,Tt.parentsOk,show Tt.parentOk L i p=false by rw[Tt.parentOk,<-HSE.out,if_neg Bool.false_ne_true,<-HBP.out,<-HBA.out];rfl];rfl
      rw[hf];rfl
     | true=>
      by_cases hq:qn=0
      ·have hq1:¬(qn:Int) > 0:=by omega
       have hq2:¬0<qn:=by omega
       have HQ:=hid hq;clear hq
       go_upto_region 7 with fail
       refine zA ?_;refine wW λK hK=>?_;go_simp;apply hK;clear hK K;refine wLk 23 (.tmp 24) rfl (lb) (1) rfl (.agg DP) (HPB.out) ?_
       simp only[Act.put,sA,sB,sC];refine @Qap _ _ _ _ _ _ _ ?_ 23 rfl _ (Qbz _) ?_;kernel_rfl
       simp only[Act.put,sA,sB,sC];iterate 3(refine wW λK hK=>?_;go_simp;apply hK;clear hK K)
       refine wLk 23 (.tmp 29) rfl (lb) (33) rfl (.agg DA) (HAB.out) ?_
       simp only[Act.put,sA,sB,sC];refine @Qap _ _ _ _ _ _ _ ?_ 23 rfl _ (Qbz _) ?_;kernel_rfl
       simp only[Act.put,sA,sB,sC];iterate 8(refine wW λK hK=>?_;go_simp;apply hK;clear hK K)
       clear he1 he2 gd c0 c65 t0 hq1 hq2;go_wp2
       go_roundw
       case rel=>exact⟨i+1,by simp,hid HLT.out,hid (by rw[HST.out,Tt.parentsOk,show Tt.parentOk L i p=true by rw[Tt.parentOk,<-HSE.out,if_neg Bool.false_ne_true,<-HBP.out,<-HBA.out,<-HQN.out,HQ.out];rfl];rfl),T2,K2⟩
       case measure=>have:=HLT.out;simp[RowKit.intOf];omega
      ·have hq1:(qn:Int) > 0:=by omega
       have hq2:0<qn:=by omega
       have HQ:=hid hq;clear hq
       go_upto_region 7 with fail
       refine zA ?_;refine wW λK hK=>?_;go_simp;apply hK;clear hK K;refine wLk 23 (.tmp 24) rfl (lb) (1) rfl (.agg DP) (HPB.out) ?_
       simp only[Act.put,sA,sB,sC];refine @Qap _ _ _ _ _ _ _ ?_ 23 rfl _ (Qbz _) ?_;kernel_rfl
       simp only[Act.put,sA,sB,sC];iterate 3(refine wW λK hK=>?_;go_simp;apply hK;clear hK K)
       refine wLk 23 (.tmp 29) rfl (lb) (33) rfl (.agg DA) (HAB.out) ?_
       simp only[Act.put,sA,sB,sC];refine @Qap _ _ _ _ _ _ _ ?_ 23 rfl _ (Qbz _) ?_;kernel_rfl
       simp only[Act.put,sA,sB,sC];iterate 8(refine wW λK hK=>?_;go_simp;apply hK;clear hK K)
       clear he1 he2 gd c0 c65 t0 hq1 hq2;go_wp2;go_ret;refine⟨?_,K2.out⟩;have hf:Tt.parentsOk L 0 P=false:=by rw[HST.out,Tt.parentsOk,show Tt.parentOk L i p=false by rw[Tt.parentOk,<-HSE.out,if_neg Bool.false_ne_true,<-HBP.out,<-HBA.out,<-HQN.out];simp[HQ.out]];rfl
       rw[hf];rfl
  ·have hnl:¬(i:Int)<(pn:Int):=by omega
   have HE:=hid (show i=pn by have:=hi.out;omega)
   clear hlt hi;go_wp2;go_ret;refine⟨?_,HK.out⟩
   have h1:Tt.parentsOk L 0 P=true:=by
    rw[HEQ.out,List.drop_of_length_le (by rw[HE.out,HPN.out];exact zB _)]
    rfl
   rw[h1];rfl
end Go.Proofs.YtnlbgggnpoeleaaGreatDoor
