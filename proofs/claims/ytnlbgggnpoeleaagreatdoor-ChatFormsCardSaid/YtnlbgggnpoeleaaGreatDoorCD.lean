/-
 ChatRight; ChatMay; ChatUnp: several texts in one.
-/
import Derived.Test.YtnlbgggnpoeleaaGreatDoorChatProt
set_option maxRecDepth 100000
set_option maxHeartbeats 6400000
namespace Go.Proofs.YtnlbgggnpoeleaaGreatDoor
open Go.RowKit Go.Lib
open List renaming setIfInBounds_toArray -> sA, set_cons_zero -> sB, set_cons_succ -> sC
open BigFrame renaming wpList_want -> wQ
namespace Cn
def right (n:Nt):Bool:=decide (0<=n.depth)&&(decide (n.depth<=4611686018427387903)&&(decide (1<=n.author)&&(decide (n.author<=64)&&(decide (0<=n.gen)&&(decide (n.gen<256)&&decide ((n.text.size:Int)<=1040))))))
theorem right_iff {n:Nt}:right n=true↔(0<=n.depth/\n.depth<=4611686018427387903)/\(1<=n.author/\n.author<=64)/\(0<=n.gen/\n.gen<256)/\(n.text.size:Int)<=1040:=by
 simp only[right,Bool.and_eq_true,decide_eq_true_eq]
 constructor
 ·rintro⟨a,b,c,d,e,f,g⟩
  exact⟨⟨a,b⟩,⟨c,d⟩,⟨e,f⟩,g⟩
 ·rintro⟨⟨a,b⟩,⟨c,d⟩,⟨e,f⟩,g⟩
  exact⟨a,b,c,d,e,f,g⟩
end Cn
theorem Qcn (n:Nt)(hn:n.ep.length=32)(w:World):Calls Tryz.prog 13 #[.agg n.cells.toArray] w λe w'=>e=.returned (.bool (Cn.right n))/\Kept w.heap.size w.heap.size w w':=by
 have HLC:=hid (λ(u:World) (nb:Nat) (h:u.heap[nb]?=some (.cells n.cells.toArray 25 (0,0)))=>Qbj hn h)
 have HRI:=hid (Cn.right_iff (n:=n));obtain⟨ND,hND⟩:∃x,x=n.cells.toArray:=⟨_,rfl⟩;rw[<-hND] at HLC |-;obtain⟨ep,d,a,g,tx⟩:=n;simp only at HLC HRI hn;obtain⟨rt,hrt⟩:∃x,x=Cn.right ⟨ep,d,a,g,tx⟩:=⟨_,rfl⟩;rw[<-hrt] at HRI |-;clear hn hND hrt
 go_enter Tryz.func13,Tryz.ntmps13
 go_upto_region 0 with fail
 refine zA ?_;iterate 2(refine wW λK hK=>?_;go_simp;apply hK;clear hK K)
 have kn:Kept w.heap.size w.heap.size w (w.alloc (.cells ND 25)):=zI.alloc (zB _) _
 have rn:=Qaa w (.cells ND 25)
 generalize w.alloc (.cells ND 25)=w1 at kn rn |-
 obtain⟨nb,hnb⟩:∃x,x=w.heap.size:=⟨_,rfl⟩;rw[<-hnb] at rn
 (try rw[<-hnb])
 obtain⟨c32,c33,c34,c35⟩:=HLC.out w1 nb rn;have K1:=hid kn;clear hnb rn kn HLC
 by_cases h1:0<=d
 ·by_cases h2:d<=4611686018427387903
  ·by_cases h3:1<=a
   ·by_cases h4:a<=64
    ·by_cases h5:0<=g
     ·by_cases h6:g<256
      ·have g6:g<=255:=by omega
       by_cases h7:(tx.size:Int)<=1040
       ·have HV:=hid (show rt=true from HRI.out.2 ⟨⟨h1,h2⟩,⟨h3,h4⟩,⟨h5,h6⟩,h7⟩)
        go_upto_region 1 with fail
        refine zA ?_;iterate 35(refine wW λK hK=>?_;go_simp;apply hK;clear hK K)
        go_wp2;go_ret;exact⟨by rw[HV.out];rfl,K1.out⟩
       ·have HV:=hid (show rt=false from by
         cases hr:rt
         ·rfl
         ·obtain⟨⟨q1,q2⟩,⟨q3,q4⟩,⟨q5,q6⟩,q7⟩:=HRI.out.1 hr
          omega)
        go_upto_region 1 with fail
        refine zA ?_;iterate 35(refine wW λK hK=>?_;go_simp;apply hK;clear hK K)
        go_wp2;go_ret;exact⟨by rw[HV.out];rfl,K1.out⟩
      ·have HV:=hid (show rt=false from by
        cases hr:rt
        ·rfl
        ·obtain⟨⟨q1,q2⟩,⟨q3,q4⟩,⟨q5,q6⟩,q7⟩:=HRI.out.1 hr
         omega)
       have hx6:¬g<=255:=by omega
       go_upto_region 1 with fail
       refine zA ?_;iterate 29(refine wW λK hK=>?_;go_simp;apply hK;clear hK K)
       (iterate 4(refine @wpList_skip _ _ _ _ _ _ _ ?_ ?_;kernel_rfl;simp only[Act.put,sA,sB,sC]));iterate 2(refine wW λK hK=>?_;go_simp;apply hK;clear hK K)
       go_wp2;go_ret;exact⟨by rw[HV.out];rfl,K1.out⟩
     ·have HV:=hid (show rt=false from by
       cases hr:rt
       ·rfl
       ·obtain⟨⟨q1,q2⟩,⟨q3,q4⟩,⟨q5,q6⟩,q7⟩:=HRI.out.1 hr
        omega)
      go_upto_region 1 with fail
      refine zA ?_;iterate 24(refine wW λK hK=>?_;go_simp;apply hK;clear hK K)
      (iterate 3(refine @wpList_skip _ _ _ _ _ _ _ ?_ ?_;kernel_rfl;simp only[Act.put,sA,sB,sC]));iterate 2(refine wW λK hK=>?_;go_simp;apply hK;clear hK K)
      (iterate 4(refine @wpList_skip _ _ _ _ _ _ _ ?_ ?_;kernel_rfl;simp only[Act.put,sA,sB,sC]));iterate 2(refine wW λK hK=>?_;go_simp;apply hK;clear hK K)
      go_wp2;go_ret;exact⟨by rw[HV.out];rfl,K1.out⟩
    ·have HV:=hid (show rt=false from by
      cases hr:rt
      ·rfl
      ·obtain⟨⟨q1,q2⟩,⟨q3,q4⟩,⟨q5,q6⟩,q7⟩:=HRI.out.1 hr
       omega)
     go_upto_region 1 with fail
     refine zA ?_;iterate 19(refine wW λK hK=>?_;go_simp;apply hK;clear hK K)
     (iterate 3(refine @wpList_skip _ _ _ _ _ _ _ ?_ ?_;kernel_rfl;simp only[Act.put,sA,sB,sC]));iterate 2(refine wW λK hK=>?_;go_simp;apply hK;clear hK K)
     (iterate 3(refine @wpList_skip _ _ _ _ _ _ _ ?_ ?_;kernel_rfl;simp only[Act.put,sA,sB,sC]));iterate 2(refine wW λK hK=>?_;go_simp;apply hK;clear hK K)
     (iterate 4(refine @wpList_skip _ _ _ _ _ _ _ ?_ ?_;kernel_rfl;simp only[Act.put,sA,sB,sC]));iterate 2(refine wW λK hK=>?_;go_simp;apply hK;clear hK K)
     go_wp2;go_ret;exact⟨by rw[HV.out];rfl,K1.out⟩
   ·have HV:=hid (show rt=false from by
     cases hr:rt
     ·rfl
     ·obtain⟨⟨q1,q2⟩,⟨q3,q4⟩,⟨q5,q6⟩,q7⟩:=HRI.out.1 hr
      omega)
    go_upto_region 1 with fail
    refine zA ?_;iterate 14(refine wW λK hK=>?_;go_simp;apply hK;clear hK K)
    (iterate 3(refine @wpList_skip _ _ _ _ _ _ _ ?_ ?_;kernel_rfl;simp only[Act.put,sA,sB,sC]));iterate 2(refine wW λK hK=>?_;go_simp;apply hK;clear hK K)
    (iterate 3(refine @wpList_skip _ _ _ _ _ _ _ ?_ ?_;kernel_rfl;simp only[Act.put,sA,sB,sC]));iterate 2(refine wW λK hK=>?_;go_simp;apply hK;clear hK K)
    (iterate 3(refine @wpList_skip _ _ _ _ _ _ _ ?_ ?_;kernel_rfl;simp only[Act.put,sA,sB,sC]));iterate 2(refine wW λK hK=>?_;go_simp;apply hK;clear hK K)
    (iterate 4(refine @wpList_skip _ _ _ _ _ _ _ ?_ ?_;kernel_rfl;simp only[Act.put,sA,sB,sC]));iterate 2(refine wW λK hK=>?_;go_simp;apply hK;clear hK K)
    go_wp2;go_ret;exact⟨by rw[HV.out];rfl,K1.out⟩
  ·have HV:=hid (show rt=false from by
    cases hr:rt
    ·rfl
    ·obtain⟨⟨q1,q2⟩,⟨q3,q4⟩,⟨q5,q6⟩,q7⟩:=HRI.out.1 hr
     omega)
   go_upto_region 1 with fail
   refine zA ?_;iterate 9(refine wW λK hK=>?_;go_simp;apply hK;clear hK K)
   (iterate 3(refine @wpList_skip _ _ _ _ _ _ _ ?_ ?_;kernel_rfl;simp only[Act.put,sA,sB,sC]));iterate 2(refine wW λK hK=>?_;go_simp;apply hK;clear hK K)
   (iterate 3(refine @wpList_skip _ _ _ _ _ _ _ ?_ ?_;kernel_rfl;simp only[Act.put,sA,sB,sC]));iterate 2(refine wW λK hK=>?_;go_simp;apply hK;clear hK K)
   (iterate 3(refine @wpList_skip _ _ _ _ _ _ _ ?_ ?_;kernel_rfl;simp only[Act.put,sA,sB,sC]));iterate 2(refine wW λK hK=>?_;go_simp;apply hK;clear hK K)
   (iterate 3(refine @wpList_skip _ _ _ _ _ _ _ ?_ ?_;kernel_rfl;simp only[Act.put,sA,sB,sC]));iterate 2(refine wW λK hK=>?_;go_simp;apply hK;clear hK K)
   (iterate 4(refine @wpList_skip _ _ _ _ _ _ _ ?_ ?_;kernel_rfl;simp only[Act.put,sA,sB,sC]));iterate 2(refine wW λK hK=>?_;go_simp;apply hK;clear hK K)
   go_wp2;go_ret;exact⟨by rw[HV.out];rfl,K1.out⟩
 ·have HV:=hid (show rt=false from by
   cases hr:rt
   ·rfl
   ·obtain⟨⟨q1,q2⟩,⟨q3,q4⟩,⟨q5,q6⟩,q7⟩:=HRI.out.1 hr
    omega)
  go_upto_region 1 with fail
  refine zA ?_;iterate 4(refine wW λK hK=>?_;go_simp;apply hK;clear hK K)
  (iterate 3(refine @wpList_skip _ _ _ _ _ _ _ ?_ ?_;kernel_rfl;simp only[Act.put,sA,sB,sC]));iterate 2(refine wW λK hK=>?_;go_simp;apply hK;clear hK K)
  (iterate 3(refine @wpList_skip _ _ _ _ _ _ _ ?_ ?_;kernel_rfl;simp only[Act.put,sA,sB,sC]));iterate 2(refine wW λK hK=>?_;go_simp;apply hK;clear hK K)
  (iterate 3(refine @wpList_skip _ _ _ _ _ _ _ ?_ ?_;kernel_rfl;simp only[Act.put,sA,sB,sC]));iterate 2(refine wW λK hK=>?_;go_simp;apply hK;clear hK K)
  (iterate 3(refine @wpList_skip _ _ _ _ _ _ _ ?_ ?_;kernel_rfl;simp only[Act.put,sA,sB,sC]));iterate 2(refine wW λK hK=>?_;go_simp;apply hK;clear hK K)
  (iterate 3(refine @wpList_skip _ _ _ _ _ _ _ ?_ ?_;kernel_rfl;simp only[Act.put,sA,sB,sC]));iterate 2(refine wW λK hK=>?_;go_simp;apply hK;clear hK K)
  (iterate 4(refine @wpList_skip _ _ _ _ _ _ _ ?_ ?_;kernel_rfl;simp only[Act.put,sA,sB,sC]));iterate 2(refine wW λK hK=>?_;go_simp;apply hK;clear hK K)
  go_wp2;go_ret;exact⟨by rw[HV.out];rfl,K1.out⟩
theorem Qdt (n:Nt)(hn:n.ep.length=32)(w:World):Calls Tryz.prog 12 #[.agg n.cells.toArray] w λe w'=>e=.returned (.bool (Cn.right n))/\Kept w.heap.size w.heap.size w w':=by
 have HLC:=hid (λ(u:World) (nb:Nat) (h:u.heap[nb]?=some (.cells n.cells.toArray 25 (0,0)))=>Qbj hn h)
 have HRI:=hid (Cn.right_iff (n:=n));obtain⟨ND,hND⟩:∃x,x=n.cells.toArray:=⟨_,rfl⟩;rw[<-hND] at HLC |-;obtain⟨ep,d,a,g,tx⟩:=n;simp only at HLC HRI hn;obtain⟨rt,hrt⟩:∃x,x=Cn.right ⟨ep,d,a,g,tx⟩:=⟨_,rfl⟩;rw[<-hrt] at HRI |-;clear hn hND hrt
 go_enter Tryz.func12,Tryz.ntmps12
 go_upto_region 0 with fail
 refine zA ?_;iterate 2(refine wW λK hK=>?_;go_simp;apply hK;clear hK K)
 have kn:Kept w.heap.size w.heap.size w (w.alloc (.cells ND 25)):=zI.alloc (zB _) _
 have rn:=Qaa w (.cells ND 25)
 generalize w.alloc (.cells ND 25)=w1 at kn rn |-
 obtain⟨nb,hnb⟩:∃x,x=w.heap.size:=⟨_,rfl⟩;rw[<-hnb] at rn
 (try rw[<-hnb])
 obtain⟨c32,c33,c34,c35⟩:=HLC.out w1 nb rn;have K1:=hid kn;clear hnb rn kn HLC
 by_cases h1:0<=d
 ·by_cases h2:d<=4611686018427387903
  ·by_cases h3:1<=a
   ·by_cases h4:a<=64
    ·by_cases h5:0<=g
     ·by_cases h6:g<256
      ·have g6:g<=255:=by omega
       by_cases h7:(tx.size:Int)<=1040
       ·have HV:=hid (show rt=true from HRI.out.2 ⟨⟨h1,h2⟩,⟨h3,h4⟩,⟨h5,h6⟩,h7⟩)
        go_upto_region 1 with fail
        refine zA ?_;iterate 35(refine wW λK hK=>?_;go_simp;apply hK;clear hK K)
        go_wp2;go_ret;exact⟨by rw[HV.out];rfl,K1.out⟩
       ·have HV:=hid (show rt=false from by
         cases hr:rt
         ·rfl
         ·obtain⟨⟨q1,q2⟩,⟨q3,q4⟩,⟨q5,q6⟩,q7⟩:=HRI.out.1 hr
          omega)
        go_upto_region 1 with fail
        refine zA ?_;iterate 35(refine wW λK hK=>?_;go_simp;apply hK;clear hK K)
        go_wp2;go_ret;exact⟨by rw[HV.out];rfl,K1.out⟩
      ·have HV:=hid (show rt=false from by
        cases hr:rt
        ·rfl
        ·obtain⟨⟨q1,q2⟩,⟨q3,q4⟩,⟨q5,q6⟩,q7⟩:=HRI.out.1 hr
         omega)
       have hx6:¬g<=255:=by omega
       go_upto_region 1 with fail
       refine zA ?_;iterate 29(refine wW λK hK=>?_;go_simp;apply hK;clear hK K)
       (iterate 4(refine @wpList_skip _ _ _ _ _ _ _ ?_ ?_;kernel_rfl;simp only[Act.put,sA,sB,sC]));iterate 2(refine wW λK hK=>?_;go_simp;apply hK;clear hK K)
       go_wp2;go_ret;exact⟨by rw[HV.out];rfl,K1.out⟩
     ·have HV:=hid (show rt=false from by
       cases hr:rt
       ·rfl
       ·obtain⟨⟨q1,q2⟩,⟨q3,q4⟩,⟨q5,q6⟩,q7⟩:=HRI.out.1 hr
        omega)
      go_upto_region 1 with fail
      refine zA ?_;iterate 24(refine wW λK hK=>?_;go_simp;apply hK;clear hK K)
      (iterate 3(refine @wpList_skip _ _ _ _ _ _ _ ?_ ?_;kernel_rfl;simp only[Act.put,sA,sB,sC]));iterate 2(refine wW λK hK=>?_;go_simp;apply hK;clear hK K)
      (iterate 4(refine @wpList_skip _ _ _ _ _ _ _ ?_ ?_;kernel_rfl;simp only[Act.put,sA,sB,sC]));iterate 2(refine wW λK hK=>?_;go_simp;apply hK;clear hK K)
      go_wp2;go_ret;exact⟨by rw[HV.out];rfl,K1.out⟩
    ·have HV:=hid (show rt=false from by
      cases hr:rt
      ·rfl
      ·obtain⟨⟨q1,q2⟩,⟨q3,q4⟩,⟨q5,q6⟩,q7⟩:=HRI.out.1 hr
       omega)
     go_upto_region 1 with fail
     refine zA ?_;iterate 19(refine wW λK hK=>?_;go_simp;apply hK;clear hK K)
     (iterate 3(refine @wpList_skip _ _ _ _ _ _ _ ?_ ?_;kernel_rfl;simp only[Act.put,sA,sB,sC]));iterate 2(refine wW λK hK=>?_;go_simp;apply hK;clear hK K)
     (iterate 3(refine @wpList_skip _ _ _ _ _ _ _ ?_ ?_;kernel_rfl;simp only[Act.put,sA,sB,sC]));iterate 2(refine wW λK hK=>?_;go_simp;apply hK;clear hK K)
     (iterate 4(refine @wpList_skip _ _ _ _ _ _ _ ?_ ?_;kernel_rfl;simp only[Act.put,sA,sB,sC]));iterate 2(refine wW λK hK=>?_;go_simp;apply hK;clear hK K)
     go_wp2;go_ret;exact⟨by rw[HV.out];rfl,K1.out⟩
   ·have HV:=hid (show rt=false from by
     cases hr:rt
     ·rfl
     ·obtain⟨⟨q1,q2⟩,⟨q3,q4⟩,⟨q5,q6⟩,q7⟩:=HRI.out.1 hr
      omega)
    go_upto_region 1 with fail
    refine zA ?_;iterate 14(refine wW λK hK=>?_;go_simp;apply hK;clear hK K)
    (iterate 3(refine @wpList_skip _ _ _ _ _ _ _ ?_ ?_;kernel_rfl;simp only[Act.put,sA,sB,sC]));iterate 2(refine wW λK hK=>?_;go_simp;apply hK;clear hK K)
    (iterate 3(refine @wpList_skip _ _ _ _ _ _ _ ?_ ?_;kernel_rfl;simp only[Act.put,sA,sB,sC]));iterate 2(refine wW λK hK=>?_;go_simp;apply hK;clear hK K)
    (iterate 3(refine @wpList_skip _ _ _ _ _ _ _ ?_ ?_;kernel_rfl;simp only[Act.put,sA,sB,sC]));iterate 2(refine wW λK hK=>?_;go_simp;apply hK;clear hK K)
    (iterate 4(refine @wpList_skip _ _ _ _ _ _ _ ?_ ?_;kernel_rfl;simp only[Act.put,sA,sB,sC]));iterate 2(refine wW λK hK=>?_;go_simp;apply hK;clear hK K)
    go_wp2;go_ret;exact⟨by rw[HV.out];rfl,K1.out⟩
  ·have HV:=hid (show rt=false from by
    cases hr:rt
    ·rfl
    ·obtain⟨⟨q1,q2⟩,⟨q3,q4⟩,⟨q5,q6⟩,q7⟩:=HRI.out.1 hr
     omega)
   go_upto_region 1 with fail
   refine zA ?_;iterate 9(refine wW λK hK=>?_;go_simp;apply hK;clear hK K)
   (iterate 3(refine @wpList_skip _ _ _ _ _ _ _ ?_ ?_;kernel_rfl;simp only[Act.put,sA,sB,sC]));iterate 2(refine wW λK hK=>?_;go_simp;apply hK;clear hK K)
   (iterate 3(refine @wpList_skip _ _ _ _ _ _ _ ?_ ?_;kernel_rfl;simp only[Act.put,sA,sB,sC]));iterate 2(refine wW λK hK=>?_;go_simp;apply hK;clear hK K)
   (iterate 3(refine @wpList_skip _ _ _ _ _ _ _ ?_ ?_;kernel_rfl;simp only[Act.put,sA,sB,sC]));iterate 2(refine wW λK hK=>?_;go_simp;apply hK;clear hK K)
   (iterate 3(refine @wpList_skip _ _ _ _ _ _ _ ?_ ?_;kernel_rfl;simp only[Act.put,sA,sB,sC]));iterate 2(refine wW λK hK=>?_;go_simp;apply hK;clear hK K)
   (iterate 4(refine @wpList_skip _ _ _ _ _ _ _ ?_ ?_;kernel_rfl;simp only[Act.put,sA,sB,sC]));iterate 2(refine wW λK hK=>?_;go_simp;apply hK;clear hK K)
   go_wp2;go_ret;exact⟨by rw[HV.out];rfl,K1.out⟩
 ·have HV:=hid (show rt=false from by
   cases hr:rt
   ·rfl
   ·obtain⟨⟨q1,q2⟩,⟨q3,q4⟩,⟨q5,q6⟩,q7⟩:=HRI.out.1 hr
    omega)
  go_upto_region 1 with fail
  refine zA ?_;iterate 4(refine wW λK hK=>?_;go_simp;apply hK;clear hK K)
  (iterate 3(refine @wpList_skip _ _ _ _ _ _ _ ?_ ?_;kernel_rfl;simp only[Act.put,sA,sB,sC]));iterate 2(refine wW λK hK=>?_;go_simp;apply hK;clear hK K)
  (iterate 3(refine @wpList_skip _ _ _ _ _ _ _ ?_ ?_;kernel_rfl;simp only[Act.put,sA,sB,sC]));iterate 2(refine wW λK hK=>?_;go_simp;apply hK;clear hK K)
  (iterate 3(refine @wpList_skip _ _ _ _ _ _ _ ?_ ?_;kernel_rfl;simp only[Act.put,sA,sB,sC]));iterate 2(refine wW λK hK=>?_;go_simp;apply hK;clear hK K)
  (iterate 3(refine @wpList_skip _ _ _ _ _ _ _ ?_ ?_;kernel_rfl;simp only[Act.put,sA,sB,sC]));iterate 2(refine wW λK hK=>?_;go_simp;apply hK;clear hK K)
  (iterate 3(refine @wpList_skip _ _ _ _ _ _ _ ?_ ?_;kernel_rfl;simp only[Act.put,sA,sB,sC]));iterate 2(refine wW λK hK=>?_;go_simp;apply hK;clear hK K)
  (iterate 4(refine @wpList_skip _ _ _ _ _ _ _ ?_ ?_;kernel_rfl;simp only[Act.put,sA,sB,sC]));iterate 2(refine wW λK hK=>?_;go_simp;apply hK;clear hK K)
  go_wp2;go_ret;exact⟨by rw[HV.out];rfl,K1.out⟩
theorem Qct {P:Program}{ops:Array Oper}{S:World->Prop}{op:Oper}{a:Act}(hw:Region.wanted op (yielded ops a.tmps)=true)(t t2:TypeId)(x y:Operand)(ho:op.op=.binOp .neq t x y t2)(A B:Array Value)(hx:a.eval x=.agg A)(hy:a.eval y=.agg B)(hg:P.eqGuardType P.depth t=false)(hr:∀w,(Op.equalIn 10000 t (.agg A) (.agg B)).run P w=.ok true w):YieldsIf P ops S op (.bool false) a:=
 .inl ⟨hw,λw _=>by
  unfold execOp
  simp[ho,hx,hy,Sem.run_bind,run_eqGuard_agg _ _ _ _ _ _ _ hg,run_neq_struct,hr,Result.andThen_ok]⟩
theorem Qk2 {base eb hi:Nat}{X:Nat->Prop}{y:Lay}{f:Fm}{L:List Lf}{P:List Pr}{me forks sent:Int}{ex:List UInt8}{S0:List Sd}{S:Nat->List Sd}(w:World)(h:EraSt w base eb hi X y f L P me forks sent ex S0 S)(hf:f.Ok)(hn:L.length<=1000)(hp:P.length<=1000)(hpl:∀p∈P,p.loose.length<=1000)
  (n:Nt) (hr:Cn.right n=true) (he:n.ep=f.id) (hd:n.depth=f.depth) (hpm:¬Tt.place L P n.author<0) (hme:n.author≠me) :
  Calls Tryz.prog 48 #[.pointer (some ⟨eb,0,none⟩),.agg n.cells.toArray] w λe w'=>e=.returned (.int .i64 0)/\Kept w.heap.size w.heap.size w w':=by
 have hnep:n.ep.length=32:=by rw[he];exact hf.1
 have HRI:=hid (λx=>Qcn n hnep x)
 rw[hr] at HRI;have HPL:=hid (λ(x:World) (k:Kept w.heap.size w.heap.size w x)=>Qc0 y.lv y.pv L P n.author x (h.kept k).lvs.1 (h.kept k).lvs.2 hn hp hpl)
 have LT:=hid (λ(x:World) (k:Kept w.heap.size w.heap.size w x)=>(h.kept k).at_tree hf)
 have LM:=hid (λ(x:World) (k:Kept w.heap.size w.heap.size w x)=>Qa3 ((h.kept k).at_mid hf).1)
 have LD:=hid (λ(x:World) (k:Kept w.heap.size w.heap.size w x)=>Qa3 ((h.kept k).at_depth hf))
 have LI:=hid (λ(x:World) (k:Kept w.heap.size w.heap.size w x)=>(h.kept k).at_id hf)
 have HLN:=hid (λ(u:World) (nb:Nat) (h:u.heap[nb]?=some (.cells n.cells.toArray 25 (0,0)))=>Qbu hnep h)
 have HLE:=hid (λ(u:World) (nb:Nat) (h:u.heap[nb]?=some (.cells n.cells.toArray 25 (0,0)))=>Qi9 hnep h)
 have HLC:=hid (λ(u:World) (nb:Nat) (h:u.heap[nb]?=some (.cells n.cells.toArray 25 (0,0)))=>Qbj hnep h)
 rw[he] at HLE;obtain⟨SL,m⟩:=h.tree;obtain⟨lad,lc,hlv⟩:=m.lvs.shape;obtain⟨pad,pc,hpv⟩:=m.pts.shape;obtain⟨ln,hln⟩:∃x,x=L.length:=⟨_,rfl⟩;obtain⟨pn,hpn⟩:∃x,x=P.length:=⟨_,rfl⟩;rw[<-hln] at hlv;rw[<-hpn] at hpv;rw[hlv,hpv] at HPL LT;obtain⟨pm,hpm2⟩:∃x,x=Tt.place L P n.author:=⟨_,rfl⟩;rw[<-hpm2] at HPL hpm;have gd:=Qha;have heq:=λx=>Qpb x f.id hf.1
 obtain⟨KI,hKI⟩:∃x,x=(bY f.id).toArray:=⟨_,rfl⟩;rw[<-hKI] at LI HLE heq;obtain⟨ND,hND⟩:∃x,x=n.cells.toArray:=⟨_,rfl⟩;rw[<-hND] at HRI HLN HLE HLC |-;rw[hd] at HLC;obtain⟨dp,hdp⟩:∃x,x=f.depth:=⟨_,rfl⟩;rw[<-hdp] at HLC LD;obtain⟨au,hau⟩:∃x,x=n.author:=⟨_,rfl⟩;rw[<-hau] at HLC HPL hme;have hne:(au == me)=false:=by simpa using hme
 have HEQ:=hid heq;have HGD:=hid gd;clear h hf hn hp hpl m hlv hpv hln hpn hpm2 hKI hND hdp hau hd he hr hnep hme heq gd
 go_enter Tryz.func48,Tryz.ntmps48
 go_upto_region 0 with fail
 refine zA ?_;iterate 2(refine wW λK hK=>?_;go_simp;apply hK;clear hK K)
 have kn:Kept w.heap.size w.heap.size w (w.alloc (.cells ND 25)):=zI.alloc (zB _) _
 have rn:=Qaa w (.cells ND 25)
 generalize w.alloc (.cells ND 25)=w1 at kn rn |-
 obtain⟨nb,hnb⟩:∃x,x=w.heap.size:=⟨_,rfl⟩;rw[<-hnb] at rn
 (try rw[<-hnb])
 have RN:=hid rn;have K1:=hid kn;clear kn rn hnb
 go_upto_region 1 with fail
 refine zA ?_;iterate 2(refine wW λK hK=>?_;go_simp;apply hK;clear hK K)
 go_upto_region 3 with fail
 refine zA ?_;refine wLk 25 (.tmp 3) rfl (nb) (0) rfl (.agg ND) (HLN.out _ _ RN.out) ?_
 simp only[Act.put,sA,sB,sC];refine wW λK hK=>?_;go_simp;go_at_call 13
 refine(HRI.out _).mono ?_;rintro e w2 ⟨rfl,k2⟩;have K2:=hid k2;clear k2;apply hK;clear hK K;refine wW λK hK=>?_;go_simp;apply hK;clear hK K
 go_upto_region 5 with fail
 refine wp_region_noPanic ?_;refine wp_region_held_drew (S:=λw'=>Kept w2.heap.size w2.heap.size w2 w') (by kernel_rfl) (zI.drew) (λhH=>?_)
 refine tkE (i:=0) 10 rfl hH ?_
 apply zH
 ·intro w9 _
  go_simp
  first|done|rfl
 simp only[sA,sB,sC];refine tkA (i:=1) 11 (.agg KI) rfl (yK (by kernel_rfl) 23 _ rfl (nb) (0) rfl (.agg KI) (λx k=>HLE.out x nb (rK RN.out (K2.out.onto k)))) hH ?_
 simp only[sA,sB,sC];refine tkE (i:=2) 12 rfl hH ?_
 apply zH
 ·intro w9 _
  go_simp
  first|done|rfl
 simp only[sA,sB,sC];refine tkE (i:=3) 13 rfl hH ?_
 apply zH
 ·intro w9 _
  go_simp
  first|done|rfl
 simp only[sA,sB,sC];refine tkE (i:=4) 14 rfl hH ?_
 apply zH
 ·intro w9 _
  go_simp
  first|done|rfl
 simp only[sA,sB,sC];refine tkE (i:=5) 15 rfl hH ?_
 apply zH
 ·intro w9 _
  go_simp
  first|done|rfl
 simp only[sA,sB,sC];refine tkA (i:=6) 16 (.agg KI) rfl (yK (by kernel_rfl) 23 _ rfl (eb) (0) rfl (.agg KI) (λx k=>LI.out x (K1.out.onto (K2.out.onto k)))) hH ?_
 simp only[sA,sB,sC];refine tkA (i:=7) 17 (.bool false) rfl (Qct (by kernel_rfl) 23 _ _ _ rfl KI KI rfl rfl HGD.out HEQ.out) hH ?_
 simp only[sA,sB,sC];refine wpAnyH_done (by kernel_rfl) ?_ _
 refine NoPanic.normal ?_;have X5:Kept w2.heap.size w2.heap.size w2 w2.drew:=zI.drew;generalize w2.drew=w5 at X5 |-
 go_upto_region 7 with fail
 refine wp_region_noPanic ?_;refine wp_region_held_drew (S:=λw'=>Kept w5.heap.size w5.heap.size w5 w') (by kernel_rfl) (zI.drew) (λhH=>?_)
 refine tkE (i:=0) 18 rfl hH ?_
 apply zH
 ·intro w9 _
  go_simp
  first|done|rfl
 simp only[sA,sB,sC];refine tkA (i:=1) 19 (.int .i64 dp) rfl (yK (by kernel_rfl) 3 _ rfl (nb) (32) rfl (.int .i64 dp) (λx k=>Qa3 (HLC.out x nb (rK RN.out ((K2.out.onto X5).onto k))).1)) hH ?_
 simp only[sA,sB,sC];refine tkE (i:=2) 20 rfl hH ?_
 apply zH
 ·intro w9 _
  go_simp
  first|done|rfl
 simp only[sA,sB,sC];refine tkE (i:=3) 21 rfl hH ?_
 apply zH
 ·intro w9 _
  go_simp
  first|done|rfl
 simp only[sA,sB,sC];refine tkE (i:=4) 22 rfl hH ?_
 apply zH
 ·intro w9 _
  go_simp
  first|done|rfl
 simp only[sA,sB,sC];refine tkE (i:=5) 23 rfl hH ?_
 apply zH
 ·intro w9 _
  go_simp
  first|done|rfl
 simp only[sA,sB,sC];refine tkA (i:=6) 24 (.int .i64 dp) rfl (yK (by kernel_rfl) 3 _ rfl (eb) (64) rfl (.int .i64 dp) (λx k=>LD.out x (K1.out.onto ((K2.out.onto X5).onto k)))) hH ?_
 simp only[sA,sB,sC];refine tkE (i:=7) 25 rfl hH ?_
 apply zH
 ·intro w9 _
  go_simp
  first|done|rfl
 simp only[sA,sB,sC];refine wpAnyH_done (by kernel_rfl) ?_ _
 refine NoPanic.normal ?_;have X7:Kept w5.heap.size w5.heap.size w5 w5.drew:=zI.drew;generalize w5.drew=w7 at X7 |-
 go_upto_region 9 with fail
 refine wp_region_noPanic ?_;refine wp_region_held_drew (S:=λw'=>Kept w7.heap.size w7.heap.size w7 w') (by kernel_rfl) (zI.drew) (λhH=>?_)
 refine tkE (i:=0) 26 rfl hH ?_
 apply zH
 ·intro w9 _
  go_simp
  first|done|rfl
 simp only[sA,sB,sC];refine tkE (i:=1) 27 rfl hH ?_
 apply zH
 ·intro w9 _
  go_simp
  first|done|rfl
 simp only[sA,sB,sC];refine tkE (i:=2) 28 rfl hH ?_
 apply zH
 ·intro w9 _
  go_simp
  first|done|rfl
 simp only[sA,sB,sC];refine tkE (i:=3) 29 rfl hH ?_
 apply zH
 ·intro w9 _
  go_simp
  first|done|rfl
 simp only[sA,sB,sC];refine tkA (i:=4) 30 (.agg #[.slice lad ln lc,.slice pad pn pc]) rfl (yK (by kernel_rfl) 45 _ rfl (eb) (65) rfl (.agg #[.slice lad ln lc,.slice pad pn pc]) (λx k=>LT.out x (K1.out.onto ((K2.out.onto (X5.onto X7)).onto k)))) hH ?_
 simp only[sA,sB,sC];refine tkE (i:=5) 31 rfl hH ?_
 apply zH
 ·intro w9 _
  go_simp
  first|done|rfl
 simp only[sA,sB,sC];refine tkA (i:=6) 32 (.int .i64 au) rfl (yK (by kernel_rfl) 3 _ rfl (nb) (33) rfl (.int .i64 au) (λx k=>Qa3 (HLC.out x nb (rK RN.out ((K2.out.onto (X5.onto X7)).onto k))).2.1)) hH ?_
 simp only[sA,sB,sC];refine wpAnyH_ready (rs:=[7]) (by kernel_rfl) (by simp) ?_
 refine AllReadyH.cons rfl (λK hK=>?_) AllReadyH.nil
 rw[zG (by rfl)]
 go_simp
 go_wp2_with (go_at_call 49;refine(HPL.out _ (K1.out.onto ((K2.out.onto (X5.onto X7)).onto (Kept.refl w7.heap.size w7.heap.size w7).drew))).mono ?_;rintro e w9 ⟨rfl,kw9⟩)
 have X9:Kept w7.heap.size w7.heap.size w7 w9:=(Kept.refl w7.heap.size w7.heap.size w7).drew.trans (kw9.mono (Kept.refl w7.heap.size w7.heap.size w7).drew.size (λi hi _=>zD (zC hi (Kept.refl w7.heap.size w7.heap.size w7).drew.size)))
 refine hK.out _ _ (X9) (λhH=>?_)
 clear hK K;refine tkE (i:=8) 34 rfl hH ?_
 apply zH
 ·intro w9 _
  go_simp
  first|done|rfl
 simp only[sA,sB,sC];refine wpAnyH_done (by kernel_rfl) ?_ _
 refine NoPanic.normal ?_
 go_upto_region 11 with fail
 refine wp_region_noPanic ?_;refine wp_region_held_drew (S:=λw'=>Kept w9.heap.size w9.heap.size w9 w') (by kernel_rfl) (zI.drew) (λhH=>?_)
 refine tkE (i:=0) 35 rfl hH ?_
 apply zH
 ·intro w9 _
  go_simp
  first|done|rfl
 simp only[sA,sB,sC];refine tkA (i:=1) 36 (.int .i64 au) rfl (yK (by kernel_rfl) 3 _ rfl (nb) (33) rfl (.int .i64 au) (λx k=>Qa3 (HLC.out x nb (rK RN.out ((K2.out.onto (X5.onto (X7.onto X9))).onto k))).2.1)) hH ?_
 simp only[sA,sB,sC];refine tkE (i:=2) 37 rfl hH ?_
 apply zH
 ·intro w9 _
  go_simp
  first|done|rfl
 simp only[sA,sB,sC];refine tkE (i:=3) 38 rfl hH ?_
 apply zH
 ·intro w9 _
  go_simp
  first|done|rfl
 simp only[sA,sB,sC];refine tkE (i:=4) 39 rfl hH ?_
 apply zH
 ·intro w9 _
  go_simp
  first|done|rfl
 simp only[sA,sB,sC];refine tkA (i:=5) 40 (.int .i64 me) rfl (yK (by kernel_rfl) 3 _ rfl (eb) (163) rfl (.int .i64 me) (λx k=>LM.out x (K1.out.onto ((K2.out.onto (X5.onto (X7.onto X9))).onto k)))) hH ?_
 simp only[sA,sB,sC];refine tkE (i:=6) 41 rfl hH ?_
 apply zH
 ·intro w9 _
  go_simp
  first|done|rfl
 simp only[sA,sB,sC];refine wpAnyH_done (by kernel_rfl) ?_ _
 refine NoPanic.normal ?_;have X11:Kept w9.heap.size w9.heap.size w9 w9.drew:=zI.drew;generalize w9.drew=w11 at X11 |-;go_wp2;go_ret;exact⟨rfl,K1.out.onto (K2.out.onto (X5.onto (X7.onto (X9.onto X11))))⟩
theorem Qsg {w:World}{g o:Nat}{s:ByteArray}(h:w.cell? ⟨g,o,none⟩=some (.string s)):(loadVar 9 ⟨g,o,none⟩).run Tryz.prog w=.ok (.string s) w:=by
 go_simp
theorem Qtt {bits:Nat}{Ls M:List Sd}{p:Nat}{k:List UInt8}{er:Int}(h:Pp.Took bits Ls (p:Int) M k er)(hp:p<2 ^ bits)(hh:∀s∈Ls,¬Pp.Has bits s p):er=10:=by
 cases h with
 | out h=>omega
 | gone q h1 _ h3=>rfl
 | took A B s q h1 h2 h3 h4=>
  obtain rfl:p=q:=by omega
  exact absurd h4 (hh s (by rw[h3];simp))
theorem Qj7 {base eb hi:Nat}{X:Nat->Prop}{y:Lay}{f:Fm}{L:List Lf}{P:List Pr}{me forks sent:Int}{ex:List UInt8}{S0:List Sd}{S:Nat->List Sd}(w:World)(h:EraSt w base eb hi X y f L P me forks sent ex S0 S)(hf:f.Ok)(hn:L.length<=1000)(hp:P.length<=1000)(hpl:∀p∈P,p.loose.length<=1000)
  (n:Nt) (hr:Cn.right n=true) (he:n.ep=f.id) (hd:n.depth=f.depth) (hme:n.author≠me) (p rb g:Nat) (hpm:Tt.place L P n.author=(p:Int)) (hpL:p<L.length) (hrb:y.R[p]?=some (some rb)) (hG:Pp.Good 8 (S p)) (hSn:(S p).length<1000000) (hgn:n.gen=(g:Int)) (hh:∀sd∈S p,¬Pp.Has 8 sd g) :
  Calls Tryz.prog 17 #[.pointer none,.pointer (some ⟨eb,0,none⟩),.agg n.cells.toArray] w λe w'=>e=.returned (.tuple #[.string ⟨#[]⟩,.int .i64 11])/\Kept w.heap.size w.heap.size w w':=by
 have hg8:g<2 ^ 8:=by have:=Cn.right_iff.1 hr;omega
 have hnep:n.ep.length=32:=by rw[he];exact hf.1
 have HORD:=hid (show base<=rb/\rb<eb from by obtain⟨o1,o2,o3,o4,o5,o6⟩:=h.ord;have:=h.row p rb hrb;omega)
 have HMO:=hid (λ(x:World) (k:Kept w.heap.size w.heap.size w x)=>Qk2 x (h.kept k) hf hn hp hpl n hr he hd (by rw[hpm];omega) hme)
 have HPL:=hid (λ(x:World) (k:Kept w.heap.size w.heap.size w x)=>Qc0 y.lv y.pv L P n.author x (h.kept k).lvs.1 (h.kept k).lvs.2 hn hp hpl)
 rw[hpm] at HPL;have HRA:=hid (λ(x:World) (k:Kept w.heap.size w.heap.size w x)=>Qf1 x (h.kept k) hf hn p hpL (some rb) hrb)
 have HRP:=hid (show rptr (some rb)=.pointer (some ⟨rb,0,none⟩) from rfl);have LT:=hid (λ(x:World) (k:Kept w.heap.size w.heap.size w x)=>(h.kept k).at_tree hf)
 have HLN:=hid (λ(u:World) (nb:Nat) (h:u.heap[nb]?=some (.cells n.cells.toArray 25 (0,0)))=>Qbu hnep h)
 have HLC:=hid (λ(u:World) (nb:Nat) (h:u.heap[nb]?=some (.cells n.cells.toArray 25 (0,0)))=>Qbj hnep h)
 rw[hgn] at HLC;obtain⟨SL,m⟩:=h.tree;obtain⟨lad,lc,hlv⟩:=m.lvs.shape;obtain⟨pad,pc,hpv⟩:=m.pts.shape;obtain⟨ln,hln⟩:∃x,x=L.length:=⟨_,rfl⟩;obtain⟨pn,hpn⟩:∃x,x=P.length:=⟨_,rfl⟩;rw[<-hln] at hlv;rw[<-hpn] at hpv;rw[hlv,hpv] at HPL LT
 have HLK:=hid (λ(x:World) (k:Kept w.heap.size w.heap.size w x)=>by
  obtain⟨sl,h3,_⟩:=((h.kept k).row p rb hrb).2.2
  exact Qqn 8 (by decide) (S p) rb sl (g:Int) x h3 hG hSn)
 have HTG:=hid (λ(M:List Sd) (k:List UInt8) (er:Int) (hx:Pp.Took 8 (S p) (g:Int) M k er)=>Qtt hx hg8 hh)
 obtain⟨ND,hND⟩:∃x,x=n.cells.toArray:=⟨_,rfl⟩;rw[<-hND] at HMO HLN HLC |-;obtain⟨au,hau⟩:∃x,x=n.author:=⟨_,rfl⟩;rw[<-hau] at HLC HPL;have HST:=hid h;clear h hf hn hp hpl m hlv hpv hln hpn hpm hND hau hd he hr hnep hme hgn hrb hG hSn hpL hg8 hh
 go_enter Tryz.func17,Tryz.ntmps17
 go_upto_region 0 with fail
 refine zA ?_;iterate 3(refine wW λK hK=>?_;go_simp;apply hK;clear hK K)
 have kn:Kept w.heap.size w.heap.size w (w.alloc (.cells ND 25)):=zI.alloc (zB _) _
 have rn:=Qaa w (.cells ND 25)
 generalize w.alloc (.cells ND 25)=w1 at kn rn |-
 obtain⟨nb,hnb⟩:∃x,x=w.heap.size:=⟨_,rfl⟩;rw[<-hnb] at rn
 (try rw[<-hnb])
 have RN:=hid rn;have K1:=hid kn;clear kn rn hnb
 go_upto_region 1 with fail
 refine zA ?_;refine wW λK hK=>?_;go_simp;apply hK;clear hK K;refine wLk 25 (.tmp 5) rfl (nb) (0) rfl (.agg ND) (HLN.out _ _ RN.out) ?_
 simp only[Act.put,sA,sB,sC];refine wW λK hK=>?_;go_simp;go_at_call 48
 refine(HMO.out _ K1.out).mono ?_;rintro e w2 ⟨rfl,k2⟩;have K2:=hid k2;clear k2;apply hK;clear hK K;refine wW λK hK=>?_;go_simp;apply hK;clear hK K
 go_upto_region 2 with fail
 refine zA ?_;iterate 2(refine wW λK hK=>?_;go_simp;apply hK;clear hK K)
 go_upto_region 4 with fail
 refine wp_region_noPanic ?_;refine wp_region_held_drew (S:=λw'=>Kept w2.heap.size w2.heap.size w2 w') (by kernel_rfl) (zI.drew) (λhH=>?_)
 refine tkE (i:=0) 19 rfl hH ?_
 apply zH
 ·intro w9 _
  go_simp
  first|done|rfl
 simp only[sA,sB,sC];refine tkE (i:=1) 20 rfl hH ?_
 apply zH
 ·intro w9 _
  go_simp
  first|done|rfl
 simp only[sA,sB,sC];refine tkE (i:=2) 21 rfl hH ?_
 apply zH
 ·intro w9 _
  go_simp
  first|done|rfl
 simp only[sA,sB,sC];refine tkE (i:=3) 22 rfl hH ?_
 apply zH
 ·intro w9 _
  go_simp
  first|done|rfl
 simp only[sA,sB,sC];refine tkE (i:=4) 23 rfl hH ?_
 apply zH
 ·intro w9 _
  go_simp
  first|done|rfl
 simp only[sA,sB,sC];refine tkA (i:=5) 24 (.agg #[.slice lad ln lc,.slice pad pn pc]) rfl (yK (by kernel_rfl) 45 _ rfl (eb) (65) rfl (.agg #[.slice lad ln lc,.slice pad pn pc]) (λx k=>LT.out x (K1.out.onto (K2.out.onto k)))) hH ?_
 simp only[sA,sB,sC];refine tkE (i:=6) 25 rfl hH ?_
 apply zH
 ·intro w9 _
  go_simp
  first|done|rfl
 simp only[sA,sB,sC];refine tkA (i:=7) 26 (.int .i64 au) rfl (yK (by kernel_rfl) 3 _ rfl (nb) (33) rfl (.int .i64 au) (λx k=>Qa3 (HLC.out x nb (rK RN.out (K2.out.onto k))).2.1)) hH ?_
 simp only[sA,sB,sC];refine wpAnyH_ready (rs:=[8]) (by kernel_rfl) (by simp) ?_
 refine AllReadyH.cons rfl (λK hK=>?_) AllReadyH.nil
 rw[zG (by rfl)]
 go_simp
 go_wp2_with (go_at_call 49;refine(HPL.out _ (K1.out.onto (K2.out.onto (Kept.refl w2.heap.size w2.heap.size w2).drew))).mono ?_;rintro e x8 ⟨rfl,kx8⟩)
 have X8:Kept w2.heap.size w2.heap.size w2 x8:=(Kept.refl w2.heap.size w2.heap.size w2).drew.trans (kx8.mono (Kept.refl w2.heap.size w2.heap.size w2).drew.size (λi hi _=>zD (zC hi (Kept.refl w2.heap.size w2.heap.size w2).drew.size)))
 refine hK.out _ _ (X8) (λhH=>?_)
 clear hK K;refine wpAnyH_ready (rs:=[9]) (by kernel_rfl) (by simp) ?_
 refine AllReadyH.cons rfl (λK hK=>?_) AllReadyH.nil
 rw[zG (by rfl)]
 go_simp
 go_wp2_with (go_at_call 42;refine(HRA.out _ (K1.out.onto (K2.out.onto X8))).mono ?_;rintro e x9 ⟨rfl,hv⟩;rw[hv];clear hv)
 rw[HRP.out];refine hK.out _ _ X8 (λhH=>?_)
 clear hK K;refine tkE (i:=10) 9 rfl hH ?_
 apply zH
 ·intro w9 _
  go_simp
  first|done|rfl
 simp only[sA,sB,sC];refine wpAnyH_done (by kernel_rfl) ?_ _
 refine NoPanic.normal ?_;have K4:=hid (K2.out.onto X8);clear X8
 go_upto_region 5 with fail
 refine zA ?_;iterate 2(refine wW λK hK=>?_;go_simp;apply hK;clear hK K)
 refine wLk 3 (.tmp 31) rfl (nb) (34) rfl (.int .i64 (g:Int)) (Qa3 (HLC.out _ nb (rK RN.out K4.out)).2.2.1) ?_
 simp only[Act.put,sA,sB,sC];refine wW λK hK=>?_;go_simp;go_at_call 50
 refine(HLK.out _ (K1.out.onto K4.out)).mono ?_;rintro e x5 ⟨M,kk,er,rfl,htk,k5⟩;obtain rfl:er=10:=HTG.out _ _ _ htk;obtain⟨KK,hKK⟩:∃x,x=(bY kk).toArray:=⟨_,rfl⟩;have HKL:=hid (Qb1 htk);rw[<-hKK];have HKS:=hid (show KK.size=32 by rw[hKK,List.size_toArray,bZ,HKL.out])
 have HKA:=hid (show KK.all (·.oneCell')=true by rw[hKK];exact Qae _)
 have HKK:=hid hKK;have K5:=hid k5;clear htk k5 hKK;apply hK;clear hK K;iterate 3(refine wW λK hK=>?_;go_simp;apply hK;clear hK K)
 refine @Qas _ _ _ _ _ _ _ _ ?_ 23 rfl _ (Qcj _) ?_;kernel_rfl
 simp only[Act.put,sA,sB,sC];refine wpList_store_row rfl 23 _ _ rfl (x5.heap.size) KK rfl rfl 23 zY (Qaa _ _) (hashInfoArr HKS.out) (by rw[HKS.out];rfl) (HKA.out) ?_
 simp only[Act.put];rw[World.setRow_alloc_new];refine wW λK hK=>?_;go_simp;apply hK;clear hK K;have K6:=hid (K5.out.onto (kA x5 (.cells KK 23)))
 go_upto_region 6 with fail
 refine zA ?_;iterate 2(refine wW λK hK=>?_;go_simp;apply hK;clear hK K)
 go_wp2;refine bodyPost_ret (results_tmp2 rfl _ _ _) rfl ?_;exact⟨rfl,K1.out.onto (K4.out.onto K6.out)⟩
theorem Qml {base eb hi:Nat}{X:Nat->Prop}{y:Lay}{f:Fm}{L:List Lf}{P:List Pr}{me forks sent:Int}{ex:List UInt8}{S0:List Sd}{S:Nat->List Sd}(w:World)(h:EraSt w base eb hi X y f L P me forks sent ex S0 S)(hf:f.Ok)(hn:L.length<=1000)(hp:P.length<=1000)(hpl:∀p∈P,p.loose.length<=1000)
  (n:Nt) (hr:Cn.right n=true) (he:n.ep=f.id) (hd:n.depth=f.depth) (hme:n.author≠me) (p rb g:Nat) (hpm:Tt.place L P n.author=(p:Int)) (hpL:p<L.length) (hrb:y.R[p]?=some (some rb)) (hG:Pp.Good 8 (S p)) (hSn:(S p).length<1000000) (hgn:n.gen=(g:Int)) (h0:∀sd∈S0,sd.self.length=32) (hS:∀i,∀sd∈S i,sd.self.length=32)
  (tab:Tab w) (k:List UInt8) (hka:Pp.KeyAt 8 (S p) g k) (text:List UInt8) (htl:text.length<=1024) (htx:n.text=str (Pm.sealed k (Cn.head n) text)) :
  Calls Tryz.prog 17 #[.pointer none,.pointer (some ⟨eb,0,none⟩),.agg n.cells.toArray] w λe w'=>∃M,e=.returned (.tuple #[.string (str text),.int .i64 0])/\Pp.Took 8 (S p) (g:Int) M k 0/\EraSt w' base eb hi X y f L P me forks sent ex S0 (putS S p M)/\Frm (Out base eb) w w':=by
 have hg8:g<2 ^ 8:=by have:=Cn.right_iff.1 hr;omega
 have hnep:n.ep.length=32:=by rw[he];exact hf.1
 have HORD:=hid (show base<=rb/\rb<eb from by obtain⟨o1,o2,o3,o4,o5,o6⟩:=h.ord;have:=h.row p rb hrb;omega)
 have HMO:=hid (λ(x:World) (k:Kept w.heap.size w.heap.size w x)=>Qk2 x (h.kept k) hf hn hp hpl n hr he hd (by rw[hpm];omega) hme)
 have HPL:=hid (λ(x:World) (k:Kept w.heap.size w.heap.size w x)=>Qc0 y.lv y.pv L P n.author x (h.kept k).lvs.1 (h.kept k).lvs.2 hn hp hpl)
 rw[hpm] at HPL;have HRA:=hid (λ(x:World) (k:Kept w.heap.size w.heap.size w x)=>Qf1 x (h.kept k) hf hn p hpL (some rb) hrb)
 have HRP:=hid (show rptr (some rb)=.pointer (some ⟨rb,0,none⟩) from rfl);have LT:=hid (λ(x:World) (k:Kept w.heap.size w.heap.size w x)=>(h.kept k).at_tree hf)
 have HLN:=hid (λ(u:World) (nb:Nat) (h:u.heap[nb]?=some (.cells n.cells.toArray 25 (0,0)))=>Qbu hnep h)
 have HLC:=hid (λ(u:World) (nb:Nat) (h:u.heap[nb]?=some (.cells n.cells.toArray 25 (0,0)))=>Qbj hnep h)
 rw[hgn] at HLC;obtain⟨SL,m⟩:=h.tree;obtain⟨lad,lc,hlv⟩:=m.lvs.shape;obtain⟨pad,pc,hpv⟩:=m.pts.shape;obtain⟨ln,hln⟩:∃x,x=L.length:=⟨_,rfl⟩;obtain⟨pn,hpn⟩:∃x,x=P.length:=⟨_,rfl⟩;rw[<-hln] at hlv;rw[<-hpn] at hpv;rw[hlv,hpv] at HPL LT
 have hhas:∃sd∈S p,Pp.Has 8 sd g:=by
  obtain⟨sd,h1,h2,_⟩:=hka;exact⟨sd,h1,h2⟩
 have hkl:k.length=32:=by
  obtain⟨sd,_,_,h3⟩:=hka;rw[h3];exact Qaw _
 have HLK:=hid (λ(x:World) (k:Kept w.heap.size w.heap.size w x)=>by
  obtain⟨sl,h3,_⟩:=((h.kept k).row p rb hrb).2.2
  exact Qqn 8 (by decide) (S p) rb sl (g:Int) x h3 hG hSn)
 have HTK:=hid (λ(x:World) (sl:Value) (hx:RowIs x rb 8 sl (S p))=>Qei 8 (by decide) (S p) rb sl (g:Int) x hx hG hSn)
 have HTG:=hid (λ(M:List Sd) (k2:List UInt8) (er:Int) (hx:Pp.Took 8 (S p) (g:Int) M k2 er)=>(show er=0/\k2=k from⟨(Qid hx hg8 hhas).1,Pp.KeyAt.one hG (Qid hx hg8 hhas).2 hka⟩))
 have HRW:=hid (λ(x:World) (k:Kept w.heap.size w.heap.size w x)=>((h.kept k).row p rb hrb).2.2)
 have HTO:=hid (λ(x x2:World) (k0:Kept w.heap.size w.heap.size w x) (sl sl':Value) (M:List Sd) (hr:RowIs x rb 8 sl (S p)) (hl:Loc base eb hi X sl (S p)) (hr':RowIs x2 rb 8 sl' M) (k:Kept x.heap.size rb x x2) (hn:Near x sl sl')=>(h.kept k0).took h0 hS hrb hr hl (by obtain⟨sd,hsd,_⟩:=hhas;intro e;rw[e] at hsd;cases hsd) hr' k hn)
 have hnum:Cn.Num n:=by
  have:=Cn.right_iff.1 hr;exact⟨by omega,by omega,by omega⟩
 have HHD:=hid (λ(x:World) (kx:Kept w.heap.size w.heap.size w x)=>Qh4 n hnep hnum x (tab.onto11 kx))
 have hhl:=Cn.head_length hnep;have HOP:=hid (λ(x:World)=>Qr7 k (hid hkl) (str (Cn.head n)) (hid (by rw[Qai];omega)) (Pm.sealed k (Cn.head n) text) text.length (Pm.sealed_length k (Cn.head n) text) (by omega) x)
 rw[show(str (Cn.head n)).data.toList=Cn.head n from rfl,Pm.opened_sealed _ _ _ (by omega)] at HOP
 rw[htx] at HLC;obtain⟨hs9,hhs9⟩:∃x,x=str (Cn.head n):=⟨_,rfl⟩;rw[<-hhs9] at HHD HOP;obtain⟨tx,htx2⟩:∃x,x=str (Pm.sealed k (Cn.head n) text):=⟨_,rfl⟩;rw[<-htx2] at HLC HOP;obtain⟨ts,hts⟩:∃x,x=str text:=⟨_,rfl⟩;rw[<-hts] at HOP |-;obtain⟨KK,hKK⟩:∃x,x=(bY k).toArray:=⟨_,rfl⟩;rw[<-hKK] at HOP;have HKS:=hid (show KK.size=32 by rw[hKK,List.size_toArray,bZ,hkl])
 have HKA:=hid (show KK.all (·.oneCell')=true by rw[hKK];exact Qae _)
 have HKK:=hid hKK;obtain⟨ND,hND⟩:∃x,x=n.cells.toArray:=⟨_,rfl⟩;rw[<-hND] at HMO HLN HLC |-;obtain⟨au,hau⟩:∃x,x=n.author:=⟨_,rfl⟩;rw[<-hau] at HLC HPL;have HST:=hid h;rw[<-hND] at HHD;clear h hf hn hp hpl m hlv hpv hln hpn hpm hND hau hd he hr hnep hme hgn hrb hG hSn hpL hg8 hka hhas hkl h0 hS hnum hhl htx hhs9 htx2 hts hKK htl tab
 go_enter Tryz.func17,Tryz.ntmps17
 go_upto_region 0 with fail
 refine zA ?_;iterate 3(refine wW λK hK=>?_;go_simp;apply hK;clear hK K)
 have kn:Kept w.heap.size w.heap.size w (w.alloc (.cells ND 25)):=zI.alloc (zB _) _
 have rn:=Qaa w (.cells ND 25)
 generalize w.alloc (.cells ND 25)=w1 at kn rn |-
 obtain⟨nb,hnb⟩:∃x,x=w.heap.size:=⟨_,rfl⟩;rw[<-hnb] at rn
 (try rw[<-hnb])
 have RN:=hid rn;have K1:=hid kn;clear kn rn hnb
 go_upto_region 1 with fail
 refine zA ?_;refine wW λK hK=>?_;go_simp;apply hK;clear hK K;refine wLk 25 (.tmp 5) rfl (nb) (0) rfl (.agg ND) (HLN.out _ _ RN.out) ?_
 simp only[Act.put,sA,sB,sC];refine wW λK hK=>?_;go_simp;go_at_call 48
 refine(HMO.out _ K1.out).mono ?_;rintro e w2 ⟨rfl,k2⟩;have K2:=hid k2;clear k2;apply hK;clear hK K;refine wW λK hK=>?_;go_simp;apply hK;clear hK K
 go_upto_region 2 with fail
 refine zA ?_;iterate 2(refine wW λK hK=>?_;go_simp;apply hK;clear hK K)
 go_upto_region 4 with fail
 refine wp_region_noPanic ?_;refine wp_region_held_drew (S:=λw'=>Kept w2.heap.size w2.heap.size w2 w') (by kernel_rfl) (zI.drew) (λhH=>?_)
 refine tkE (i:=0) 19 rfl hH ?_
 apply zH
 ·intro w9 _
  go_simp
  first|done|rfl
 simp only[sA,sB,sC];refine tkE (i:=1) 20 rfl hH ?_
 apply zH
 ·intro w9 _
  go_simp
  first|done|rfl
 simp only[sA,sB,sC];refine tkE (i:=2) 21 rfl hH ?_
 apply zH
 ·intro w9 _
  go_simp
  first|done|rfl
 simp only[sA,sB,sC];refine tkE (i:=3) 22 rfl hH ?_
 apply zH
 ·intro w9 _
  go_simp
  first|done|rfl
 simp only[sA,sB,sC];refine tkE (i:=4) 23 rfl hH ?_
 apply zH
 ·intro w9 _
  go_simp
  first|done|rfl
 simp only[sA,sB,sC];refine tkA (i:=5) 24 (.agg #[.slice lad ln lc,.slice pad pn pc]) rfl (yK (by kernel_rfl) 45 _ rfl (eb) (65) rfl (.agg #[.slice lad ln lc,.slice pad pn pc]) (λx k=>LT.out x (K1.out.onto (K2.out.onto k)))) hH ?_
 simp only[sA,sB,sC];refine tkE (i:=6) 25 rfl hH ?_
 apply zH
 ·intro w9 _
  go_simp
  first|done|rfl
 simp only[sA,sB,sC];refine tkA (i:=7) 26 (.int .i64 au) rfl (yK (by kernel_rfl) 3 _ rfl (nb) (33) rfl (.int .i64 au) (λx k=>Qa3 (HLC.out x nb (rK RN.out (K2.out.onto k))).2.1)) hH ?_
 simp only[sA,sB,sC];refine wpAnyH_ready (rs:=[8]) (by kernel_rfl) (by simp) ?_
 refine AllReadyH.cons rfl (λK hK=>?_) AllReadyH.nil
 rw[zG (by rfl)]
 go_simp
 go_wp2_with (go_at_call 49;refine(HPL.out _ (K1.out.onto (K2.out.onto (Kept.refl w2.heap.size w2.heap.size w2).drew))).mono ?_;rintro e x8 ⟨rfl,kx8⟩)
 have X8:Kept w2.heap.size w2.heap.size w2 x8:=(Kept.refl w2.heap.size w2.heap.size w2).drew.trans (kx8.mono (Kept.refl w2.heap.size w2.heap.size w2).drew.size (λi hi _=>zD (zC hi (Kept.refl w2.heap.size w2.heap.size w2).drew.size)))
 refine hK.out _ _ (X8) (λhH=>?_)
 clear hK K;refine wpAnyH_ready (rs:=[9]) (by kernel_rfl) (by simp) ?_
 refine AllReadyH.cons rfl (λK hK=>?_) AllReadyH.nil
 rw[zG (by rfl)]
 go_simp
 go_wp2_with (go_at_call 42;refine(HRA.out _ (K1.out.onto (K2.out.onto X8))).mono ?_;rintro e x9 ⟨rfl,hv⟩;rw[hv];clear hv)
 rw[HRP.out];refine hK.out _ _ X8 (λhH=>?_)
 clear hK K;refine tkE (i:=10) 9 rfl hH ?_
 apply zH
 ·intro w9 _
  go_simp
  first|done|rfl
 simp only[sA,sB,sC];refine wpAnyH_done (by kernel_rfl) ?_ _
 refine NoPanic.normal ?_;have K4:=hid (K2.out.onto X8);clear X8
 go_upto_region 5 with fail
 refine zA ?_;iterate 2(refine wW λK hK=>?_;go_simp;apply hK;clear hK K)
 refine wLk 3 (.tmp 31) rfl (nb) (34) rfl (.int .i64 (g:Int)) (Qa3 (HLC.out _ nb (rK RN.out K4.out)).2.2.1) ?_
 simp only[Act.put,sA,sB,sC];refine wW λK hK=>?_;go_simp;go_at_call 50
 refine(HLK.out _ (K1.out.onto K4.out)).mono ?_;rintro e x5 ⟨M0,kk,er,rfl,htk,k5⟩;obtain⟨he0,hk0⟩:=HTG.out _ _ _ htk;subst he0;rw[hk0,<-HKK.out];have K5:=hid (K4.out.onto k5);clear htk k5 hk0;apply hK;clear hK K;iterate 3(refine wW λK hK=>?_;go_simp;apply hK;clear hK K)
 refine @Qas _ _ _ _ _ _ _ _ ?_ 23 rfl _ (Qcj _) ?_;kernel_rfl
 simp only[Act.put,sA,sB,sC];refine wpList_store_row rfl 23 _ _ rfl (x5.heap.size) KK rfl rfl 23 zY (Qaa _ _) (hashInfoArr HKS.out) (by rw[HKS.out];rfl) (HKA.out) ?_
 simp only[Act.put];rw[World.setRow_alloc_new];refine wW λK hK=>?_;go_simp;apply hK;clear hK K;have k6:Kept x5.heap.size x5.heap.size x5 (x5.alloc (.cells KK 23)):=zI.alloc (zB _) _
 have r6:=Qaa x5 (.cells KK 23)
 generalize x5.alloc (.cells KK 23)=x6 at k6 r6 |-
 obtain⟨hb,hhb⟩:∃x,x=x5.heap.size:=⟨_,rfl⟩;rw[<-hhb] at r6
 (try rw[<-hhb])
 have K6:=hid (K5.out.onto k6);have R6:=hid r6;clear k6 r6 hhb
 go_upto_region 6 with fail
 refine zA ?_;iterate 2(refine wW λK hK=>?_;go_simp;apply hK;clear hK K)
 go_upto_region 8 with fail
 refine wp_region_noPanic ?_;refine wp_region_held_drew (S:=λw'=>Kept x6.heap.size x6.heap.size x6 w') (by kernel_rfl) (zI.drew) (λhH=>?_)
 refine tkA (i:=0) 39 (.agg KK) rfl (yK (by kernel_rfl) 23 _ rfl (hb) (0) rfl (.agg KK) (λx k=>run_loadVar_row x hb 23 23 _ (0,0) _ (rK R6.out k) Tryz.underlying23 rfl (hashInfoArr HKS.out))) hH ?_
 simp only[sA,sB,sC];refine tkA (i:=1) 40 (.agg ND) rfl (yK (by kernel_rfl) 25 _ rfl (nb) (0) rfl (.agg ND) (λx k=>HLN.out x nb (rK RN.out (K6.out.onto k)))) hH ?_
 simp only[sA,sB,sC];refine tkE (i:=3) 42 rfl hH ?_
 apply zH
 ·intro w9 _
  go_simp
  first|done|rfl
 simp only[sA,sB,sC];refine tkA (i:=4) 43 (.string tx) rfl (yK (by kernel_rfl) 9 _ rfl (nb) (35) rfl (.string tx) (λx k=>Qsg (HLC.out x nb (rK RN.out (K6.out.onto k))).2.2.2)) hH ?_
 simp only[sA,sB,sC];refine wpAnyH_ready (rs:=[2]) (by kernel_rfl) (by simp) ?_
 refine AllReadyH.cons rfl (λK hK=>?_) AllReadyH.nil
 rw[zG (by rfl)]
 go_simp
 go_wp2_with (go_at_call 46;refine(HHD.out _ (K1.out.onto (K6.out.onto (Kept.refl x6.heap.size x6.heap.size x6).drew))).mono ?_;rintro e v1 ⟨rfl,kv1⟩)
 have V1:Kept x6.heap.size x6.heap.size x6 v1:=(Kept.refl x6.heap.size x6.heap.size x6).drew.trans (kv1.mono (Kept.refl x6.heap.size x6.heap.size x6).drew.size (λi hi _=>zD (zC hi (Kept.refl x6.heap.size x6.heap.size x6).drew.size)))
 refine hK.out _ _ (V1) (λhH=>?_)
 clear hK K;refine wpAnyH_ready (rs:=[5]) (by kernel_rfl) (by simp) ?_
 refine AllReadyH.cons rfl (λK hK=>?_) AllReadyH.nil
 rw[zG (by rfl)]
 go_simp
 go_wp2_with (go_at_call 51;refine(HOP.out _).mono ?_;rintro e v2 ⟨rfl,kv2⟩)
 have V2:Kept x6.heap.size x6.heap.size x6 v2:=V1.trans (kv2.mono V1.size (λi hi _=>zD (zC hi V1.size)))
 refine hK.out _ _ (V2) (λhH=>?_)
 clear hK K;refine tkE (i:=6) 38 rfl hH ?_
 apply zH
 ·intro w9 _
  go_simp
  first|done|rfl
 simp only[sA,sB,sC];refine tkE (i:=7) 45 rfl hH ?_
 apply zH
 ·intro w9 _
  go_simp
  first|done|rfl
 simp only[sA,sB,sC];refine tkE (i:=9) 12 rfl hH ?_
 apply zH
 ·intro w9 _
  go_simp
  first|done|rfl
 simp only[sA,sB,sC];refine tkE (i:=8) 46 rfl hH ?_
 apply zH
 ·intro w9 _
  go_simp
  first|done|rfl
 simp only[sA,sB,sC];refine tkE (i:=10) 11 rfl hH ?_
 apply zH
 ·intro w9 _
  go_simp
  first|done|rfl
 simp only[sA,sB,sC];refine wpAnyH_done (by kernel_rfl) ?_ _
 refine NoPanic.normal ?_;have K8:=hid (K6.out.onto V2);clear V1 V2
 go_upto_region 9 with fail
 refine zA ?_;iterate 2(refine wW λK hK=>?_;go_simp;apply hK;clear hK K)
 go_upto_region 11 with fail
 refine zA ?_;iterate 3(refine wW λK hK=>?_;go_simp;apply hK;clear hK K)
 refine wLk 3 (.tmp 52) rfl (nb) (34) rfl (.int .i64 (g:Int)) (Qa3 (HLC.out _ nb (rK RN.out K8.out)).2.2.1) ?_
 simp only[Act.put,sA,sB,sC];refine wW λK hK=>?_;go_simp;obtain⟨sl9,hr9,hl9⟩:=HRW.out _ (K1.out.onto K8.out);go_at_call 44
 refine(HTK.out _ sl9 hr9).mono ?_;rintro e x9 ⟨M,k9,er,rfl,htk,sl8,hr8,kx,hnr⟩;obtain⟨he0,hk0⟩:=HTG.out _ _ _ htk;subst he0;subst hk0;have HTKN:=hid htk;have EF:=hid (HTO.out _ _ (K1.out.onto K8.out) _ _ _ hr9 hl9 hr8 kx hnr);have FF:=hid (((K1.out.onto K8.out).fr (B:=Out base eb)).trans (⟨kx.os,kx.tape,kx.output,kx.size,λi hi2 hb2=>kx.block i hi2 (λe=>by have:=HORD.out;have:i<base\/eb<i:=hb2;omega)⟩:Frm (Out base eb) v2 x9))
 clear kx hr9 hl9 hr8 hnr htk;apply hK;clear hK K;go_wp2;refine bodyPost_ret (results_tmp2 rfl _ _ _) rfl ?_;exact⟨M,rfl,HTKN.out,EF.out,FF.out⟩
end Go.Proofs.YtnlbgggnpoeleaaGreatDoor
