/-
 TreeLacks; TreePlace; TreeRefPlace; TreeOwn; TreeMine; TreeWiden; TreeMake: several texts in one.
-/
import Derived.Test.YtnlbgggnpoeleaaGreatDoorTreeRight
import Derived.Laws.IdiomCopy
set_option maxRecDepth 100000
set_option maxHeartbeats 6400000
namespace Go.Proofs.YtnlbgggnpoeleaaGreatDoor
open Go.RowKit Go.Lib
open List renaming setIfInBounds_toArray -> sA, set_cons_zero -> sB, set_cons_succ -> sC
open BigFrame renaming wpList_want -> wQ
namespace Tt
def lacks (L:List Lf)(P:List Pr)(x:Int):Int:=
 if right L P then(if 0<=x/\x<(L.length:Int)/\¬nameAt L x=0 then 0 else 7) else 1
end Tt
namespace Tt
def index (L:List Lf)(y:Int):Int:=((L.findIdx? (λl=>l.name == y)).map (λk=>((k:Nat):Int))).getD (-1)
def place (L:List Lf)(P:List Pr)(y:Int):Int:=if(decide (1<=y)&&decide (y<=64))&&right L P then index L y else -1
theorem index_at {L:List Lf}{y:Int}{i:Nat}(hi:i<L.length)(h1:∀j (hj:j<i),(L[j]'(by omega)).name≠y)(h2:L[i].name=y):index L y=(i:Int):=by
 have:L.findIdx? (λl=>l.name == y)=some i:=by
  rw[List.findIdx?_eq_some_iff_getElem];exact⟨hi,by rw[beq_iff_eq];exact h2,λj hj=>by rw[beq_iff_eq];exact h1 j hj⟩
 rw[index,this]
 rfl
theorem index_none {L:List Lf}{y:Int}(h:∀j (hj:j<L.length),L[j].name≠y):index L y=-1:=by
 have:L.findIdx? (λl=>l.name == y)=none:=by
  rw[List.findIdx?_eq_none_iff];intro l hl;obtain⟨j,hj,rfl⟩:=List.getElem_of_mem hl;rw[beq_eq_false_iff_ne];exact h j hj
 rw[index,this]
 rfl
end Tt
theorem Qi7 {w:World}{b:Nat}{x:Value}{t:TypeId}(h:w.heap[b]?=some (.cells #[x] t (0,0))):w.cell? ⟨b,0,none⟩=some x:=by simp[World.cell?,h]
theorem Qm5 (l:Lf)(nb:Nat)(y:Int)(w:World)(hb:w.heap[nb]?=some (.cells #[.int .i64 y] 3 (0,0))):Calls Tryz.prog 87 #[.agg l.cells.toArray,.pointer (some ⟨nb,0,none⟩)] w λe w'=>e=.returned (.bool (l.name == y))/\Kept w.heap.size w.heap.size w w':=by
 have hk:Kept w.heap.size w.heap.size w (w.alloc (.cells l.cells.toArray 122)):=zI.alloc (zB _) _
 have hc:=Qcf (Qaa w (.cells l.cells.toArray 122))
 have hy:=Qi7 (rk hb hk);generalize l.cells.toArray=D at hk hc hy |-;generalize l.name=nm at hc |-;have HK:=hid hk;clear hk hb
 go_enter Tryz.func87,Tryz.ntmps87
 go_wp2;go_ret;exact⟨by simp,HK.out⟩
theorem Qpl (v:Value)(L:List Lf)(nb:Nat)(y:Int)(w:World)(hL:Lvs w v L)(hn:L.length<=1000)(hb:w.heap[nb]?=some (.cells #[.int .i64 y] 3 (0,0))):
  Calls Tryz.prog 86 #[v,.func (.func 87) #[] #[.pointer (some ⟨nb,0,none⟩)]] w λe w'=>e=.returned (.int .i64 (Tt.index L y))/\Kept w.heap.size w.heap.size w w':=by
 obtain⟨ad,g,o,c,rfl,hc,_⟩:=hL;obtain⟨ln,hln⟩:∃ln,ln=L.length:=⟨_,rfl⟩;have hln9:(ln:Int)<=1000:=by omega
 have HLN:=hid hln;rw[<-hln];have HC:=hid hc;have HP1:=hid (λ(l:Lf) (x:World) (k:Kept w.heap.size w.heap.size w x)=>Qm5 l nb y x (rk hb k))
 clear hc hln hn hb
 go_enter Tryz.func86,Tryz.ntmps86
 go_wp2
 go_loopw [8] (λs8 wr=>∃i:Nat,s8=.int .i64 (i:Int)/\Hid (i<=ln)/\Hid (∀j (hj:j<i) (h:j<L.length),(L[j]'h).name≠y)/\Hid (Kept w.heap.size w.heap.size w wr)) (λs8 _=>ln-(RowKit.intOf s8).toNat)
 case atStart=>exact⟨0,rfl,hid (Nat.zero_le _),hid (λj hj=>absurd hj (Nat.not_lt_zero _)),hid zI⟩
 case round=>
  obtain⟨i,rfl,hi,HNE,HK⟩:=hrel
  by_cases hlt:i<ln
  ·have hiL:i<L.length:=by rw[<-HLN.out];exact hlt
   obtain⟨rfl,hg,hok,hr⟩:=HC.out i hiL;have hlti:(i:Int)<(ln:Int):=by omega
   have hi0:¬(i:Int)<0:=by omega
   have HLA:=hid (run_loadVar_mid wr g (o+i*97) 122 L[i].cells _ (Qaf HK.out hr hg (zD hg)) Tryz.underlying122 rfl (by have:=leafInfo (Lf.size hok);simpa using this))
   have HP2:=hid (HP1.out L[i] wr HK.out);obtain⟨D,hD⟩:∃D,D=L[i].cells.toArray:=⟨_,rfl⟩;obtain⟨nm,hnm⟩:∃nm,nm=L[i].name:=⟨_,rfl⟩;rw[<-hD,<-hnm] at HP2;rw[<-hD] at HLA;have HNM:=hid (show ∀h:i<L.length,nm=(L[i]'h).name from λ_=>hnm)
   have HLT:=hid hlt;clear hr hok hD hlt hi hnm hiL hg
   go_upto_region 4 with fail
   by_cases hz:nm=y
   ·have HZ:=hid hz
    have HZB:=hid (show(nm == y)=true by rw[beq_iff_eq];exact hz)
    rw[HZB.out] at HP2;clear hz;refine zA ?_;iterate 4(refine wW λK hK=>?_;go_simp;apply hK;clear hK K)
    refine wLk 122 (.tmp 14) rfl (g) (o+i*97) rfl (.agg D) (HLA.out) ?_
    simp only[Act.put,sA,sB,sC];refine wW λK hK=>?_;go_simp;go_at_call 87
    refine(HP2.out).mono ?_;rintro e w3 ⟨rfl,k3⟩;have K3:=hid (HK.out.next1 k3);clear k3;apply hK;clear hK K;go_wp2;go_ret;refine⟨?_,K3.out⟩;rw[Tt.index_at (i:=i) (by rw[<-HLN.out];exact HLT.out) (λj hj=>HNE.out j hj _) (by rw[<-HNM.out];exact HZ.out)]
    rfl
   ·have HZ:=hid hz
    have HZB:=hid (show(nm == y)=false by rw[beq_eq_false_iff_ne];exact hz)
    rw[HZB.out] at HP2;clear hz;refine zA ?_;iterate 4(refine wW λK hK=>?_;go_simp;apply hK;clear hK K)
    refine wLk 122 (.tmp 14) rfl (g) (o+i*97) rfl (.agg D) (HLA.out) ?_
    simp only[Act.put,sA,sB,sC];refine wW λK hK=>?_;go_simp;go_at_call 87
    refine(HP2.out).mono ?_;rintro e w3 ⟨rfl,k3⟩;have K3:=hid (HK.out.next1 k3);clear k3;apply hK;clear hK K;go_wp2
    go_roundw
    case rel=>exact⟨i+1,by simp,hid HLT.out,hid (λj hj h=>by
     rcases Nat.lt_or_ge j i with h1|h1
     ·exact HNE.out j h1 h
     ·obtain rfl:j=i:=by omega
      rw[<-HNM.out]
      exact HZ.out),K3⟩
    case measure=>have:=HLT.out;simp[RowKit.intOf];omega
  ·have hnl:¬(i:Int)<(ln:Int):=by omega
   have HE:=hid (show i=ln by have:=hi.out;omega)
   clear hlt hi;go_wp2;go_ret;refine⟨?_,HK.out⟩;rw[Tt.index_none (λj hj=>HNE.out j (by rw[HE.out,HLN.out];exact hj) hj)]
   rfl
theorem Qc0 (lv pv:Value)(L:List Lf)(P:List Pr)(y:Int)(w:World)(hL:Lvs w lv L)(hP:Pts w pv P)(hn:L.length<=1000)(hp:P.length<=1000)(hpl:∀p∈P,p.loose.length<=1000):
  Calls Tryz.prog 49 #[.agg #[lv,pv],.int .i64 y] w λe w'=>e=.returned (.int .i64 (Tt.place L P y))/\Kept w.heap.size w.heap.size w w':=by
 have HRR:=hid (λ(x:World) (k:Kept w.heap.size w.heap.size w x)=>Qe1 lv pv L P x (hL.kept k) (hP.kept k) hn hp hpl)
 have HIX:=hid (λ(x:World) (k:Kept w.heap.size w.heap.size w x) (nb:Nat) (hb:x.heap[nb]?=some (.cells #[.int .i64 y] 3 (0,0)))=>Qpl lv L nb y x (hL.kept k) hn hb)
 have HIN:=hid (λx=>(Qh3 y x).mono (λe w' h=>show e=.returned (.bool (decide (1<=y)&&decide (y<=64)))/\Kept x.heap.size x.heap.size x w' from⟨h.1,Qnh h.2⟩))
 obtain⟨ad,c,rfl⟩:=hL.shape;obtain⟨pad,pc,rfl⟩:=hP.shape;obtain⟨ln,hln⟩:∃ln,ln=L.length:=⟨_,rfl⟩;obtain⟨pn,hpn⟩:∃pn,pn=P.length:=⟨_,rfl⟩;rw[<-hln,<-hpn] at HRR |-;rw[<-hln] at HIX;clear hln hpn hn hp hpl hP hL;have ka:=kA w (.cells #[.slice ad ln c,.slice pad pn pc] 45)
 have ha:=Qaa w (.cells #[.slice ad ln c,.slice pad pn pc] 45)
 go_enter Tryz.func49,Tryz.ntmps49
 go_upto_region 1 with fail
 have hsz:(w.alloc (.cells #[.slice ad ln c,.slice pad pn pc] 45)).heap.size=w.heap.size+1:=by simp
 generalize w.alloc (.cells #[.slice ad ln c,.slice pad pn pc] 45)=wa at ka ha hsz |-
 have kb:=kA wa (.cells #[.int .i64 y] 3)
 have hb:=Qaa wa (.cells #[.int .i64 y] 3)
 have ha2:=rk ha kb;have kc:=ka.next1 kb;rw[hsz] at hb
 (try rw[hsz])
 clear ka ha kb;generalize wa.alloc (.cells #[.int .i64 y] 3)=w1 at kc hb ha2 |-
 clear hsz;obtain⟨nb,hnb⟩:∃nb,nb=w.heap.size+1:=⟨_,rfl⟩;rw[<-hnb] at hb
 (try rw[<-hnb])
 obtain⟨tb,htb⟩:∃tb,tb=w.heap.size:=⟨_,rfl⟩;rw[<-htb] at ha2 |-;have K1:=hid kc;have T1:=hid ha2;have B1:=hid hb;clear kc hb ha2 hnb htb;have y0:=Qi7 B1.out;obtain⟨rt,hrt⟩:∃rt,rt=Tt.right L P:=⟨_,rfl⟩;rw[<-hrt] at HRR;have HRT:=hid hrt;clear hrt;obtain⟨nk,hnk⟩:∃nk,nk=(decide (1<=y)&&decide (y<=64)):=⟨_,rfl⟩;rw[<-hnk] at HIN;have HNK:=hid hnk;clear hnk
 cases nk with
 | false=>
  refine zA ?_;refine wW λK hK=>?_;go_simp;apply hK;clear hK K;refine wW λK hK=>?_;go_simp;go_at_call 84
  refine(HIN.out _).mono ?_;rintro e w2 ⟨rfl,k2⟩;have K2:=hid (K1.out.next1 k2);have T2:=hid (rk T1.out k2);have B2:=hid (rk B1.out k2);clear k2;apply hK;clear hK K;iterate 2(refine wW λK hK=>?_;go_simp;apply hK;clear hK K)
  (iterate 3(refine @wpList_skip _ _ _ _ _ _ _ ?_ ?_;kernel_rfl;simp only[Act.put,sA,sB,sC]));refine wW λK hK=>?_;go_simp;apply hK;clear hK K;clear y0;go_wp2;go_ret;refine⟨?_,K2.out⟩;rw[Tt.place,<-HNK.out,<-HRT.out]
  rfl
 | true=>
  cases rt with
  | false=>
   refine zA ?_;refine wW λK hK=>?_;go_simp;apply hK;clear hK K;refine wW λK hK=>?_;go_simp;go_at_call 84
   refine(HIN.out _).mono ?_;rintro e w2 ⟨rfl,k2⟩;have K2:=hid (K1.out.next1 k2);have T2:=hid (rk T1.out k2);have B2:=hid (rk B1.out k2);clear k2;apply hK;clear hK K;iterate 2(refine wW λK hK=>?_;go_simp;apply hK;clear hK K)
   refine wLk 45 (.tmp 2) rfl (tb) (0) rfl (.agg #[.slice ad ln c,.slice pad pn pc]) (run_loadVar_row w2 tb 45 45 _ (0,0) _ T2.out Tryz.underlying45 rfl treeInfo) ?_
   simp only[Act.put,sA,sB,sC];refine wW λK hK=>?_;go_simp;go_at_call 85
   refine(HRR.out _ K2.out).mono ?_;rintro e w3 ⟨rfl,k3⟩;have K3:=hid (K2.out.next1 k3);have T3:=hid (rk T2.out k3);have B3:=hid (rk B2.out k3);clear k3;apply hK;clear hK K;iterate 2(refine wW λK hK=>?_;go_simp;apply hK;clear hK K)
   clear y0;go_wp2;go_ret;refine⟨?_,K3.out⟩;rw[Tt.place,<-HNK.out,<-HRT.out]
   rfl
  | true=>
   refine zA ?_;refine wW λK hK=>?_;go_simp;apply hK;clear hK K;refine wW λK hK=>?_;go_simp;go_at_call 84
   refine(HIN.out _).mono ?_;rintro e w2 ⟨rfl,k2⟩;have K2:=hid (K1.out.next1 k2);have T2:=hid (rk T1.out k2);have B2:=hid (rk B1.out k2);clear k2;apply hK;clear hK K;iterate 2(refine wW λK hK=>?_;go_simp;apply hK;clear hK K)
   refine wLk 45 (.tmp 2) rfl (tb) (0) rfl (.agg #[.slice ad ln c,.slice pad pn pc]) (run_loadVar_row w2 tb 45 45 _ (0,0) _ T2.out Tryz.underlying45 rfl treeInfo) ?_
   simp only[Act.put,sA,sB,sC];refine wW λK hK=>?_;go_simp;go_at_call 85
   refine(HRR.out _ K2.out).mono ?_;rintro e w3 ⟨rfl,k3⟩;have K3:=hid (K2.out.next1 k3);have T3:=hid (rk T2.out k3);have B3:=hid (rk B2.out k3);clear k3;apply hK;clear hK K;iterate 2(refine wW λK hK=>?_;go_simp;apply hK;clear hK K)
   clear y0;have t0:=Qac T3.out
   go_upto_region 3 with fail
   refine zA ?_;iterate 3(refine wW λK hK=>?_;go_simp;apply hK;clear hK K)
   refine wW λK hK=>?_;go_simp;go_at_call 86
   refine(HIX.out _ K3.out nb B3.out).mono ?_;rintro e w4 ⟨rfl,k4⟩;have K4:=hid (K3.out.next1 k4);clear k4;apply hK;clear hK K;refine wW λK hK=>?_;go_simp;apply hK;clear hK K;clear t0;go_wp2;go_ret;refine⟨?_,K4.out⟩;rw[Tt.place,<-HNK.out,<-HRT.out]
   rfl
namespace Tt
def rplace (L:List Lf)(y:Int):Int:=if 0<y then index L y else -1
def none (L:List Lf)(x:Int):Bool:=decide (x<0) || (decide ((L.length:Int)<=x) || nameAt L x == 0)
end Tt
theorem Qkb (lv pv:Value)(L:List Lf)(y:Int)(w:World)(hL:Lvs w lv L)(hn:L.length<=1000)(hpv:∃ad n c,pv=.slice ad n c):
  Calls Tryz.prog 72 #[.agg #[lv,pv],.int .i64 y] w λe w'=>e=.returned (.int .i64 (Tt.rplace L y))/\Kept w.heap.size w.heap.size w w':=by
 obtain⟨pad,pn,pc,rfl⟩:=hpv;obtain⟨ad,g,o,c,rfl,hc,_⟩:=hL;obtain⟨ln,hln⟩:∃ln,ln=L.length:=⟨_,rfl⟩;have hln9:(ln:Int)<=1000:=by omega
 have HLN:=hid hln;rw[<-hln];have HC:=hid hc;clear hc hln hn;have hk1:Kept w.heap.size w.heap.size w (w.alloc (.cells #[.slice ad ln c,.slice pad pn pc] 45)):=zI.alloc (zB _) _
 have ht1:=Qaa w (.cells #[.slice ad ln c,.slice pad pn pc] 45)
 have K1:=hid hk1;have T1:=hid ht1;clear hk1 ht1
 go_enter Tryz.func72,Tryz.ntmps72
 go_upto_region 1 with fail
 generalize w.alloc (.cells #[.slice ad ln c,.slice pad pn pc] 45)=w1 at K1 T1 |-
 obtain⟨tb,htb⟩:∃tb,tb=w.heap.size:=⟨_,rfl⟩;rw[<-htb] at T1 |-;clear htb
 by_cases hy:0<y
 ·have hyi:y > 0:=hy
  have HY:=hid hy;go_wp2
  go_loopw [5] (λs5 wr=>∃i:Nat,s5=.int .i64 (i:Int)/\Hid (i<=ln)/\Hid (∀j (hj:j<i) (h:j<L.length),(L[j]'h).name≠y)/\Hid (wr.heap[tb]?=some (.cells #[.slice ad ln c,.slice pad pn pc] 45 (0,0)))/\Hid (Kept w.heap.size w.heap.size w wr)) (λs5 _=>ln-(RowKit.intOf s5).toNat)
  case atStart=>exact⟨0,rfl,hid (Nat.zero_le _),hid (λj hj=>absurd hj (Nat.not_lt_zero _)),T1,K1⟩
  case round=>
   obtain⟨i,rfl,hi,HNE,HT,HK⟩:=hrel;have t0:=Qac HT.out
   by_cases hlt:i<ln
   ·have hiL:i<L.length:=by rw[<-HLN.out];exact hlt
    obtain⟨rfl,hg,hok,hr⟩:=HC.out i hiL;have hlti:(i:Int)<(ln:Int):=by omega
    have hi0:¬(i:Int)<0:=by omega
    have HLT:=hid hlt;have hck0:w.cell? ⟨g,o+i*97,none⟩=some (.int .i64 L[i].name):=hr 0 _ (by simp[Lf.cells])
    have hck:=(HK.out.cell (p:=⟨g,o+i*97,none⟩) hg (zD hg)).trans hck0;obtain⟨nm,hnm⟩:∃nm,nm=L[i].name:=⟨_,rfl⟩;rw[<-hnm] at hck;have HNM:=hid (show ∀h:i<L.length,nm=(L[i]'h).name from λ_=>hnm)
    clear hck0 hr hok hnm hg;clear hlt hi hiL
    go_upto_region 4 with fail
    clear hy hyi
    by_cases hz:nm=y
    ·have hzb:(nm == y)=true:=by rw[beq_iff_eq];exact hz
     have HZ:=hid hz;clear hz;refine zA ?_;iterate 8(refine wW λK hK=>?_;go_simp;apply hK;clear hK K)
     clear t0 hzb hck hlti hi0;go_wp2;go_ret;refine⟨?_,HK.out⟩;rw[Tt.rplace,zG HY.out,Tt.index_at (i:=i) (by rw[<-HLN.out];exact HLT.out) (λj hj=>HNE.out j hj _) (by rw[<-HNM.out];exact HZ.out)]
     rfl
    ·have hzb:(nm == y)=false:=by rw[beq_eq_false_iff_ne];exact hz
     have HZ:=hid hz;clear hz;refine zA ?_;iterate 8(refine wW λK hK=>?_;go_simp;apply hK;clear hK K)
     clear t0 hzb hck;go_wp2
     go_roundw
     case rel=>exact⟨i+1,by simp,hid HLT.out,hid (λj hj h=>by
      rcases Nat.lt_or_ge j i with h1|h1
      ·exact HNE.out j h1 h
      ·obtain rfl:j=i:=by omega
       rw[<-HNM.out]
       exact HZ.out),HT,HK⟩
     case measure=>have:=HLT.out;simp[RowKit.intOf];omega
   ·have hnl:¬(i:Int)<(ln:Int):=by omega
    have HE:=hid (show i=ln by have:=hi.out;omega)
    clear hlt hi;go_wp2;go_ret;refine⟨?_,HK.out⟩;rw[Tt.rplace,zG HY.out,Tt.index_none (λj hj=>HNE.out j (by rw[HE.out,HLN.out];exact hj) hj)]
    rfl
 ·have hyi:¬y > 0:=hy
  have HY:=hid hy;go_wp2
  go_loopw [5] (λs5 wr=>s5=.int .i64 0/\Hid (wr.heap[tb]?=some (.cells #[.slice ad ln c,.slice pad pn pc] 45 (0,0)))/\Hid (Kept w.heap.size w.heap.size w wr)) (λ_ _=>0)
  case atStart=>exact⟨rfl,T1,K1⟩
  case round=>
   obtain⟨rfl,HT,HK⟩:=hrel;have t0:=Qac HT.out
   by_cases hlt:0<ln
   ·have hlti:(0:Int)<(ln:Int):=by omega
    go_wp2;go_ret;refine⟨?_,HK.out⟩;rw[Tt.rplace,if_neg (Int.not_lt.2 HY.out)]
    rfl
   ·have hlti:¬(0:Int)<(ln:Int):=by omega
    go_wp2;go_ret;refine⟨?_,HK.out⟩;rw[Tt.rplace,if_neg (Int.not_lt.2 HY.out)]
    rfl
theorem flat_len (n:Nat):∀R:List (List Value),(∀r∈R,r.length=n)->R.flatten.length=R.length*n
 | [],_=>by simp
 | r::R,h=>by
  rw[List.flatten_cons,zE,flat_len n R (λx hx=>h x (List.mem_cons_of_mem _ hx)),h r (List.mem_cons_self ..),List.length_cons,Nat.succ_mul,Nat.add_comm]
theorem Qep (n:Nat):∀(R:List (List Value)),(∀r∈R,r.length=n)->∀(i:Nat) (hi:i<R.length) (j:Nat),j<n->R.flatten[i*n+j]?=(R[i])[j]?
 | [],_,i,hi,_,_=>absurd hi (Nat.not_lt_zero _)
 | r::R,h,0,_,j,hj=>by
  rw[List.flatten_cons,Nat.zero_mul,Nat.zero_add,List.getElem?_append_left (by rw[h r (List.mem_cons_self ..)];exact hj)]
  rfl
 | r::R,h,i+1,hi,j,hj=>by
  have hr:=h r (List.mem_cons_self ..);rw[List.flatten_cons,List.getElem?_append_right (by rw[hr,Nat.succ_mul];omega),show(i+1)*n+j-r.length=i*n+j by rw[hr,Nat.succ_mul];omega]
  exact Qep n R (λx hx=>h x (List.mem_cons_of_mem _ hx)) i (by simpa using hi) j hj
def OwnC (w:World)(base:Nat)(T:TypeId)(n:Nat)(v:Value)(R:List (List Value)):Prop:=(∀r∈R,r.length=n/\∀x∈r,x.oneCell'=true)/\w.ownsRow base T n v R.length R.flatten
section
variable {w:World} {base:Nat} {T:TypeId} {n:Nat} {v:Value} {R:List (List Value)}
theorem OwnC.nil (w:World)(base:Nat)(T:TypeId)(n:Nat):OwnC w base T n (.slice none 0 0) []:=⟨(λ_ h=>nomatch h),World.ownsRow_nil w base T n⟩
theorem OwnC.alloc (h:OwnC w base T n v R)(o:Obj):OwnC (w.alloc o) base T n v R:=⟨h.1,h.2.alloc o⟩
theorem OwnC.kept {w':World}{b:Nat}(h:OwnC w base T n v R)(k:Kept w.heap.size b w w')(hb:w.heap.size<=b):OwnC w' base T n v R:=
 ⟨h.1,h.2.kept (row:=none) ⟨k.os,k.tape,k.output,k.size,λi hi _=>k.block i hi (by omega)⟩ (by cases hv:v.ownBlock <;> simp)⟩
theorem OwnC.len (h:OwnC w base T n v R):∀r∈R,r.length=n:=λr hr=>(h.1 r hr).1
theorem OwnC.at (h:OwnC w base T n v R):∃ad g c,v=.slice ad R.length c/\(∀i (hi:i<R.length),ad=some ⟨g,0,none⟩/\base<=g/\g<w.heap.size/\w.rangeAt g (0+i*n) R[i])/\R.length<=c:=by
 have hl:=h.len;obtain⟨h1,ho⟩:=h;have hlt:=ho.lt;have h0:=ho
 rcases ho.2 with⟨rfl,hn⟩|⟨g,cap,cur,rfl,hb,_,hnc,_⟩
 ·obtain rfl:=List.length_eq_zero_iff.1 hn
  exact⟨none,0,0,rfl,λ_ h=>absurd h (Nat.not_lt_zero _),zB _⟩
 ·refine⟨some ⟨g,0,none⟩,g,cap,rfl,λi hi=>⟨rfl,(hlt g rfl).1,(hlt g rfl).2,λj u hu=>?_⟩,hnc⟩
  have hj:j<n:=by
   rcases Nat.lt_or_ge j n with h1|h1
   ·exact h1
   ·rw[List.getElem?_eq_none (by rw[hl _ (List.getElem_mem hi)];exact h1)] at hu;cases hu
  have h2:=h0.cells (g:=g) rfl (i*n+j) u (by rw[Qep n R hl i hi j hj];exact hu)
  rw[Addr.add_lit,Nat.zero_add] at h2;rw[Nat.zero_add];exact h2
end
theorem leafFullAll:(Tryz.prog.info? 122).map (λi=>(i.zero.map (·.cells.size),i.size,i.bytes))=some (some 97,97,104):=by kernel_rfl
theorem parentFullAll:(Tryz.prog.info? 124).map (λi=>(i.zero.map (·.cells.size),i.size,i.bytes))=some (some 66,66,96):=by kernel_rfl
theorem Qdp {t:TypeId}{a b c:Nat}(h:(Tryz.prog.info? t).map (λi=>(i.zero.map (·.cells.size),i.size,i.bytes))=some (some a,b,c)):∃i z,Tryz.prog.info? t=some i/\i.zero=some z/\z.cells.size=a/\i.size=b/\i.bytes=c:=by
 cases hq:Tryz.prog.info? t with
 | none=>rw[hq] at h;cases h
 | some i=>
  rw[hq] at h;simp only[Option.map_some,Option.some.injEq,Prod.mk.injEq] at h
  cases hz:i.zero with
  | none=>rw[hz] at h;cases h.1
  | some z=>
   rw[hz] at h;simp only[Option.map_some,Option.some.injEq] at h;exact⟨i,z,rfl,hz,h.1,h.2.1,h.2.2⟩
theorem Qmf (w:World)(base:Nat)(v:Value)(R:List (List Value))(hown:OwnC w base 122 97 v R)(hbase:base<=w.heap.size)(b o c:Nat)(X:List (List Value))(hx:∀x∈X,x.length=97/\∀y∈x,y.oneCell'=true)(hb:∀i (hi:i<X.length),w.rangeAt b (o+i*97) X[i])(hl:R.length+X.length<1073741824):
  ∃v' w',(Builtin.append_ #[42,42] 42 #[v,.slice (some ⟨b,o,none⟩) X.length c]).run Tryz.prog w=.ok v' w'/\OwnC w' base 122 97 v' (R++X)/\w.grownBy w' v.ownBlock:=by
 obtain⟨i,z,hi,hz,hzs,hs,hby⟩:=Qdp leafFullAll;obtain⟨h1,ho⟩:=hown;have hxl:∀x∈X,x.length=97:=λx h=>(hx x h).1
 obtain⟨v',w',e1,e2,e3,_⟩:=run_append_own (P:=Tryz.prog) w base 42 42 122 i z 97 104 Tryz.underlying42 hi hz hs hby hzs (by decide) v R.length R.flatten ho ⟨b,o,none⟩ X.length c X.flatten
  (by rw[flat_len 97 X hxl]) (λj u hu=>by
   rw[Addr.add_lit];have hj:j<X.flatten.length:=(List.getElem?_eq_some_iff.1 hu).1;rw[flat_len 97 X hxl] at hj;have hq:j/97<X.length:=by omega
   have hr:j%97<97:=Nat.mod_lt _ (by decide)
   have h2:=hb (j/97) hq (j%97) u (by
    rw[<-Qep 97 X hxl (j/97) hq (j%97) hr,show j/97*97+j%97=j by omega]
    exact hu)
   rw[show o+j/97*97+j%97=o+j by omega] at h2
   exact h2)
  (λy hy=>by
   obtain⟨s,hs1,hs2⟩:=List.mem_flatten.1 hy
   exact(hx s hs1).2 y hs2) (by unfold maxLen;omega) (by omega) hbase
 refine⟨v',w',e1,⟨λy hy=>?_,?_⟩,e3⟩
 ·rcases List.mem_append.1 hy with h|h
  ·exact h1 y h
  ·exact hx y h
 ·rw[zE,List.flatten_append]
  exact e2
theorem Lf.cells_one (l:Lf):∀x∈l.cells,x.oneCell'=true:=by
 intro v hv
 rcases List.mem_cons.1 hv with rfl|hv
 ·rfl
 ·rcases List.mem_append.1 hv with hv|hv
  ·exact Qan _ v hv
  ·rcases List.mem_append.1 hv with hv|hv
   ·exact Qan _ v hv
   ·exact Qan _ v hv
theorem Pr.cells_one (p:Pr)(ad:Option Addr)(n c:Nat):∀x∈p.cells (.slice ad n c),x.oneCell'=true:=by
 intro v hv
 rcases List.mem_cons.1 hv with rfl|hv
 ·rfl
 ·rcases List.mem_append.1 hv with hv|hv
  ·exact Qan _ v hv
  ·rcases List.mem_append.1 hv with hv|hv
   ·exact Qan _ v hv
   ·rw[List.mem_singleton.1 hv];rfl
theorem OwnC.lvs {w:World}{base:Nat}{v:Value}{L:List Lf}(h:OwnC w base 122 97 v (L.map Lf.cells))(hok:∀l∈L,l.Ok):Lvs w v L:=by
 obtain⟨ad,g,c,rfl,h1,h2⟩:=h.at;rw[List.length_map] at h2 |-;refine⟨ad,g,0,c,rfl,λi hi=>?_,h2⟩
 obtain⟨rfl,_,hg,hr⟩:=h1 i (by rw[List.length_map];exact hi)
 refine⟨rfl,hg,hok _ (List.getElem_mem hi),?_⟩;rw[List.getElem_map] at hr;exact hr
def putList:List Value->Nat->List Value->List Value
 | xs,_,[]=>xs
 | xs,o,v::vs=>putList (xs.set o v) (o+1) vs
theorem Qdz:∀ (vs:List Value) (xs:List Value) (o:Nat),(putList xs o vs).length=xs.length
 | [],_,_=>rfl
 | v::vs,xs,o=>by rw[putList,Qdz vs];simp
theorem Qd5:∀ (vs:List Value) (xs:List Value) (o j:Nat),o+vs.length<=xs.length->(putList xs o vs)[j]?=if o<=j/\j<o+vs.length then vs[j-o]? else xs[j]?
 | [],xs,o,j,_=>by
  rw[putList,if_neg (by simp only[List.length_nil];omega)]
 | v::vs,xs,o,j,h=>by
  rw[List.length_cons] at h;rw[putList,Qd5 vs (xs.set o v) (o+1) j (by rw[List.length_set];omega),List.length_cons]
  by_cases h1:o+1<=j/\j<o+1+vs.length
  ·rw[zG h1,zG (by omega),show j-o=(j-(o+1))+1 by omega,List.getElem?_cons_succ]
  ·rw[if_neg h1,List.getElem?_set]
   by_cases h2:o=j
   ·subst h2
    rw[zG rfl,zG (by omega),zG (by omega),Nat.sub_self]
    rfl
   ·rw[if_neg h2,if_neg (by omega)]
theorem Qm4 (n:Nat)(R:List (List Value))(hR:∀r∈R,r.length=n)(i:Nat)(hi:i<R.length)(r:List Value)(hr:r.length=n):putList R.flatten (i*n) r=(R.set i r).flatten:=by
 have hR2:∀x∈R.set i r,x.length=n:=λx hx=>by
  rcases List.mem_or_eq_of_mem_set hx with h|h
  ·exact hR x h
  ·rw[h];exact hr
 have hfl:=flat_len n R hR;have hin:(i+1)*n<=R.length*n:=Nat.mul_le_mul_right n hi;rw[Nat.succ_mul] at hin;apply List.ext_getElem?;intro j;rw[Qd5 r R.flatten (i*n) j (by rw[hfl,hr];exact hin),hr]
 by_cases hj:j<R.length*n
 ·have hn:0<n:=by
   rcases Nat.eq_zero_or_pos n with h|h
   ·rw[h,Nat.mul_zero] at hj;exact absurd hj (Nat.not_lt_zero _)
   ·exact h
  have hq:j/n<R.length:=(Nat.div_lt_iff_lt_mul hn).2 hj;have hm:j%n<n:=Nat.mod_lt _ hn;have hdm:j/n*n+j%n=j:=by rw[Nat.mul_comm];exact Nat.div_add_mod j n
  have e1:=Qep n R hR (j/n) hq (j%n) hm;have e2:=Qep n (R.set i r) hR2 (j/n) (by rw[List.length_set];exact hq) (j%n) hm
  rw[hdm] at e1 e2;rw[e2,e1,List.getElem_set]
  by_cases h:i=j/n
  ·have h3:i*n+j%n=j:=by rw[h];exact hdm
   rw[zG h,zG (by omega),show j-i*n=j%n by omega]
  ·rw[if_neg h,if_neg]
   intro h4;apply h;have h5:j<(i+1)*n:=by rw[Nat.succ_mul];exact h4.2
   have h6:=(Nat.div_lt_iff_lt_mul hn).2 h5;have h7:=(Nat.le_div_iff_mul_le hn).2 h4.1
   omega
 ·rw[if_neg (by omega),List.getElem?_eq_none (by rw[hfl];omega),List.getElem?_eq_none (by rw[flat_len n _ hR2,List.length_set];omega)]
section
variable {base:Nat} {T:TypeId} {n g cap m:Nat}
theorem Qel:∀ (vs:List Value) (o:Nat) (w:World) (xs:List Value),w.ownsRow base T n (.slice (some ⟨g,0,none⟩) m cap) m xs->(w.setCells g o vs).ownsRow base T n (.slice (some ⟨g,0,none⟩) m cap) m (putList xs o vs)/\w.grownBy (w.setCells g o vs) (some g)
 | [],_,_,_,h=>⟨h,⟨rfl,rfl,rfl,zB _,λ_ _ _=>rfl⟩⟩
 | v::vs,o,w,xs,h=>by
  obtain⟨h1,h2⟩:=h.stored o v;obtain⟨h3,h4⟩:=Qel vs (o+1) _ _ h1;refine⟨h3,?_⟩;exact⟨h4.os.trans h2.os,h4.tape.trans h2.tape,h4.output.trans h2.output,Nat.le_trans h2.size h4.size,λk hk hne=>(h4.block k (zC hk h2.size) hne).trans (h2.block k hk hne)⟩
theorem OwnC.put {w:World}{R:List (List Value)}(h:OwnC w base T n (.slice (some ⟨g,0,none⟩) R.length cap) R)(i:Nat)(hi:i<R.length)(r:List Value)(hr:r.length=n)(h1:∀y∈r,y.oneCell'=true):
  OwnC (w.setCells g (i*n) r) base T n (.slice (some ⟨g,0,none⟩) R.length cap) (R.set i r)/\w.grownBy (w.setCells g (i*n) r) (some g):=by
 obtain⟨a,b⟩:=Qel r (i*n) w R.flatten h.2;rw[Qm4 n R h.len i hi r hr] at a;refine⟨⟨λx hx=>?_,by rw[List.length_set];exact a⟩,b⟩
 rcases List.mem_or_eq_of_mem_set hx with hx|hx
 ·exact h.1 x hx
 ·rw[hx];exact⟨hr,h1⟩
theorem OwnC.there {w:World}{R:List (List Value)}(h:OwnC w base T n (.slice (some ⟨g,0,none⟩) R.length cap) R)(i:Nat)(hi:i<R.length):w.there g (i*n) n:=λj hj=>by
 have h2:=h.2.cellAt (i*n+j) (by
  have:(i+1)*n<=R.length*n:=Nat.mul_le_mul_right n hi;rw[Nat.succ_mul] at this
  omega)
 rw[Qep n R h.len i hi j hj] at h2;refine⟨?_,h.2.frozenAt _⟩;rw[h2,List.getElem?_eq_getElem (by rw[h.len _ (List.getElem_mem hi)];exact hj)]
 rfl
end
structure Frm (B:Nat->Prop) (w w':World):Prop where
 os:w'.os=w.os
 tape:w'.tape=w.tape
 output:w'.output=w.output
 size:w.heap.size<=w'.heap.size
 block:∀k,k<w.heap.size->B k->w'.heap[k]?=w.heap[k]?
section
variable {B B':Nat->Prop} {w w1 w2:World} {row:Option Nat}
theorem Frm.refl (B:Nat->Prop)(w:World):Frm B w w:=⟨rfl,rfl,rfl,zB _,λ_ _ _=>rfl⟩
theorem Frm.trans (h:Frm B w w1)(k:Frm B w1 w2):Frm B w w2:=
 ⟨k.os.trans h.os,k.tape.trans h.tape,k.output.trans h.output,Nat.le_trans h.size k.size,λi hi hb=>(k.block i (zC hi h.size) hb).trans (h.block i hi hb)⟩
theorem Frm.mono (h:Frm B w w1)(hb:∀k,B' k->B k):Frm B' w w1:=⟨h.os,h.tape,h.output,h.size,λi hi b=>h.block i hi (hb i b)⟩
theorem Frm.kept (h:Frm B w w1)(hb:∀k,k<w.heap.size->B k):Kept w.heap.size w.heap.size w w1:=⟨h.os,h.tape,h.output,h.size,λi hi _=>h.block i hi (hb i hi)⟩
theorem Kept.fr (k:Kept w.heap.size w.heap.size w w1):Frm B w w1:=⟨k.os,k.tape,k.output,k.size,λi hi _=>k.block i hi (by omega)⟩
theorem Frm.alloc (h:Frm B w w1)(o:Obj):Frm B w (w1.alloc o):=h.trans ((Kept.refl w1.heap.size w1.heap.size w1).alloc (zB _) o).fr
theorem Kept.grew (k:Kept w.heap.size w.heap.size w w1):w.grownBy w1 none:=⟨k.os,k.tape,k.output,k.size,λi hi _=>k.block i hi (by omega)⟩
theorem Qfk (h:w.grownBy w1 row)(hr:∀g,row=some g->¬B g):Frm B w w1:=⟨h.os,h.tape,h.output,h.size,λi hi hb=>h.block i hi (λe=>hr i e.symm hb)⟩
theorem OwnC.grown {base:Nat}{T:TypeId}{n:Nat}{v:Value}{R:List (List Value)}(h:OwnC w base T n v R)(g:w.grownBy w1 row)(hne:v.ownBlock=none\/v.ownBlock≠row):OwnC w1 base T n v R:=⟨h.1,h.2.kept g hne⟩
end
def Dif (a b:Option Nat):Prop:=a=none\/a≠b
structure Mine (B:Nat->Prop) (w:World) (lv pv:Value) (L:List Lf) (P:List Pr) (SL:List Value):Prop where
 lok:∀l∈L,l.Ok
 pok:∀p∈P,p.Ok
 lo:OwnC w 0 122 97 lv (L.map Lf.cells)
 len:SL.length=P.length
 po:OwnC w 0 124 66 pv (List.zipWith Pr.cells P SL)
 so:∀(i:Nat) (p:Pr) (s:Value),P[i]?=some p->SL[i]?=some s->Ints w 0 s p.loose
 dlp:Dif lv.ownBlock pv.ownBlock
 dls:∀s∈SL,Dif lv.ownBlock s.ownBlock
 dps:∀s∈SL,Dif pv.ownBlock s.ownBlock
 dss:∀(i j:Nat) (s t:Value),i≠j->SL[i]?=some s->SL[j]?=some t->Dif s.ownBlock t.ownBlock
 ol:∀g,lv.ownBlock=some g->¬B g
 op:∀g,pv.ownBlock=some g->¬B g
 os:∀s∈SL,∀g,s.ownBlock=some g->¬B g
 bnd:∀k,B k->k<w.heap.size
section
variable {B B':Nat->Prop} {w w1:World} {lv pv:Value} {L:List Lf} {P:List Pr} {SL:List Value} {row:Option Nat}
theorem Mine.keep (h:Mine B w lv pv L P SL)(g:w.grownBy w1 row)(h1:lv.ownBlock=none\/lv.ownBlock≠row)(h2:pv.ownBlock=none\/pv.ownBlock≠row)(h3:∀s∈SL,s.ownBlock=none\/s.ownBlock≠row):Mine B w1 lv pv L P SL:=
 { h with
   lo:=h.lo.grown g h1
   po:=h.po.grown g h2
   so:=λi p s hp hs=>World.ownsRow.kept (h.so i p s hp hs) g (h3 s (List.mem_of_getElem? hs))
   bnd:=λk hk=>zC (h.bnd k hk) g.size }
theorem Qf5 (v:Value):v.ownBlock=none\/v.ownBlock≠none:=by cases v.ownBlock <;> simp
theorem Mine.kept (h:Mine B w lv pv L P SL)(k:Kept w.heap.size w.heap.size w w1):Mine B w1 lv pv L P SL:=
 h.keep k.grew (Qf5 _) (Qf5 _) (λ_ _=>Qf5 _)
theorem Mine.alloc (h:Mine B w lv pv L P SL)(o:Obj):Mine B (w.alloc o) lv pv L P SL:=h.kept (zI.alloc (zB _) o)
theorem Mine.aside (h:Mine B w lv pv L P SL){b:Nat}(hb:B b)(g:w.grownBy w1 (some b)):Mine B w1 lv pv L P SL:=
 h.keep g (.inr λe=>h.ol b e hb) (.inr λe=>h.op b e hb) (λs hs=>.inr λe=>h.os s hs b e hb)
theorem Mine.mono (h:Mine B w lv pv L P SL)(hb:∀k,B' k->B k):Mine B' w lv pv L P SL:=
 { h with
   ol:=λg e b=>h.ol g e (hb g b)
   op:=λg e b=>h.op g e (hb g b)
   os:=λs hs g e b=>h.os s hs g e (hb g b)
   bnd:=λk b=>h.bnd k (hb k b) }
theorem Mine.box (h:Mine B w lv pv L P SL)(o:Obj):Mine (λk=>B k\/k=w.heap.size) (w.alloc o) lv pv L P SL:=
 { (h.alloc o) with
   ol:=λg e b=>b.elim (h.ol g e) (λe2=>by have:=(h.lo.2.lt g e).2;omega)
   op:=λg e b=>b.elim (h.op g e) (λe2=>by have:=(h.po.2.lt g e).2;omega)
   os:=λs hs g e b=>b.elim (h.os s hs g e) (λe2=>by
    obtain⟨i,hi,rfl⟩:=List.getElem_of_mem hs;have h2:=(h.so i (P[i]'(by rw[<-h.len];exact hi)) _ (List.getElem?_eq_getElem _) (List.getElem?_eq_getElem hi)).lt g e
    omega)
   bnd:=λk b=>by
    rw[World.size_alloc];exact b.elim (λb=>Nat.lt_succ_of_lt (h.bnd k b)) (λe=>by omega) }
theorem Mine.lvs (h:Mine B w lv pv L P SL):Lvs w lv L:=h.lo.lvs h.lok
theorem Quw {b:Nat}{s:Value}{l:List Int}(h:Ints w b s l):Nums w s l:=by
 have h0:=h
 rcases h.2 with⟨rfl,hn⟩|⟨g,cap,cur,rfl,_,hg,_⟩
 ·obtain rfl:=List.length_eq_zero_iff.1 hn
  exact⟨none,0,0,0,rfl,λi hi=>absurd hi (Nat.not_lt_zero _)⟩
 ·refine⟨some ⟨g,0,none⟩,cap,g,0,rfl,λi hi=>⟨rfl,(h0.lt g rfl).2,?_⟩⟩
  have h2:=World.ownsRow.cells (g:=g) h0 rfl i (.int .i64 l[i]) (by rw[List.getElem?_map,List.getElem?_eq_getElem hi];rfl)
  rw[Addr.add_lit] at h2;exact h2
theorem Qgy (h:Mine B w lv pv L P SL):(List.zipWith Pr.cells P SL).length=P.length:=by rw[List.length_zipWith,h.len,Nat.min_self]
theorem Mine.pts (h:Mine B w lv pv L P SL):Pts w pv P:=by
 obtain⟨ad,g,c,rfl,h1,h2⟩:=h.po.at;rw[Qgy h] at h2 |-;refine⟨ad,g,0,c,rfl,λi hi=>?_,h2⟩
 obtain⟨rfl,_,hg,hr⟩:=h1 i (by rw[Qgy h];exact hi)
 have hs:i<SL.length:=by rw[h.len];exact hi
 rw[List.getElem_zipWith] at hr;exact⟨rfl,hg,h.pok _ (List.getElem_mem hi),SL[i],hr,Quw (h.so i _ _ (List.getElem?_eq_getElem hi) (List.getElem?_eq_getElem hs))⟩
theorem Qm8 {base:Nat}{T:TypeId}{n:Nat}{v:Value}{R:List (List Value)}(h:OwnC w base T n v R)(hR:0<R.length):∃g cap,v=.slice (some ⟨g,0,none⟩) R.length cap:=by
 rcases h.2.2 with⟨rfl,hn⟩|⟨g,cap,cur,rfl,_⟩
 ·omega
 ·exact⟨g,cap,rfl⟩
theorem Qn7 (w:World)(v:Value)(R:List (List Value))(hown:OwnC w 0 122 97 v R)(b c:Nat)(x:List Value)(hx:x.length=97)(hx1:∀y∈x,y.oneCell'=true)(hb:w.rangeAt b 0 x)(hn:R.length<1073741824):
  ∃v' w',(Builtin.append_ #[42,42] 42 #[v,.slice (some ⟨b,0,none⟩) 1 c]).run Tryz.prog w=.ok v' w'/\OwnC w' 0 122 97 v' (R++[x])/\w.grownBy w' v.ownBlock/\(v'.ownBlock=v.ownBlock\/v'.ownBlock=some w.heap.size):=by
 obtain⟨i,z,hi,hz,hzs,hs,hby⟩:=Qdp leafFullAll;obtain⟨h1,ho⟩:=hown
 obtain⟨v',w',e1,e2,e3,_,e4⟩:=run_append_own_at (P:=Tryz.prog) (w:=w) 0 42 42 122 i z 97 104 Tryz.underlying42 hi hz hs hby hzs (by decide) v R.length R.flatten ho ⟨b,0,none⟩ 1 c x
  (by rw[hx]) (λj u hu=>by
   rw[Addr.add_lit]
   exact hb j u hu) hx1 (by unfold maxLen;omega) (by omega) (Nat.zero_le _)
 refine⟨v',w',e1,⟨λy hy=>?_,?_⟩,e3,e4⟩
 ·rcases List.mem_append.1 hy with h|h
  ·exact h1 y h
  ·rw[List.mem_singleton.1 h];exact⟨hx,hx1⟩
 ·rw[zE,List.flatten_append]
  simpa using e2
theorem Qkl (w:World)(v:Value)(R:List (List Value))(hown:OwnC w 0 124 66 v R)(b c:Nat)(x:List Value)(hx:x.length=66)(hx1:∀y∈x,y.oneCell'=true)(hb:w.rangeAt b 0 x)(hn:R.length<1073741824):
  ∃v' w',(Builtin.append_ #[43,43] 43 #[v,.slice (some ⟨b,0,none⟩) 1 c]).run Tryz.prog w=.ok v' w'/\OwnC w' 0 124 66 v' (R++[x])/\w.grownBy w' v.ownBlock/\(v'.ownBlock=v.ownBlock\/v'.ownBlock=some w.heap.size):=by
 obtain⟨i,z,hi,hz,hzs,hs,hby⟩:=Qdp parentFullAll;obtain⟨h1,ho⟩:=hown
 obtain⟨v',w',e1,e2,e3,_,e4⟩:=run_append_own_at (P:=Tryz.prog) (w:=w) 0 43 43 124 i z 66 96 Tryz.underlying43 hi hz hs hby hzs (by decide) v R.length R.flatten ho ⟨b,0,none⟩ 1 c x
  (by rw[hx]) (λj u hu=>by
   rw[Addr.add_lit]
   exact hb j u hu) hx1 (by unfold maxLen;omega) (by omega) (Nat.zero_le _)
 refine⟨v',w',e1,⟨λy hy=>?_,?_⟩,e3,e4⟩
 ·rcases List.mem_append.1 hy with h|h
  ·exact h1 y h
  ·rw[List.mem_singleton.1 h];exact⟨hx,hx1⟩
 ·rw[zE,List.flatten_append]
  simpa using e2
theorem Mine.leaf (h:Mine B w lv pv L P SL)(i:Nat)(hi:i<L.length)(l:Lf)(hl:l.Ok):
  ∃g cap,lv=.slice (some ⟨g,0,none⟩) L.length cap/\¬B g/\w.there g (i*97) 97/\Mine B (w.setCells g (i*97) l.cells) lv pv (L.set i l) P SL/\w.grownBy (w.setCells g (i*97) l.cells) (some g):=by
 obtain⟨g,cap,rfl⟩:=Qm8 h.lo (by rw[List.length_map];omega)
 have hq:i<(L.map Lf.cells).length:=by rw[List.length_map];exact hi
 obtain⟨h1,h2⟩:=OwnC.put h.lo i hq l.cells (Lf.cells_length hl) l.cells_one;have hne:∀x:Value,Dif (some g) x.ownBlock->x.ownBlock=none\/x.ownBlock≠some g:=λx hx=>.inr λe=>hx.elim (λe2=>nomatch e2) (λe2=>e2 e.symm)
 have h3:=OwnC.there h.lo i hq;rw[List.length_map] at h1 |-;refine⟨g,cap,rfl,h.ol g rfl,h3,?_,h2⟩
 exact { h with
  lok:=λx hx=>(List.mem_or_eq_of_mem_set hx).elim (h.lok x) (λe=>e ▸ hl)
  lo:=by rw[List.map_set];exact h1
  po:=h.po.grown h2 (hne pv h.dlp)
  so:=λj p s hp hs=>World.ownsRow.kept (h.so j p s hp hs) h2 (hne s (h.dls s (List.mem_of_getElem? hs)))
  bnd:=λk hk=>zC (h.bnd k hk) h2.size }
theorem Qtj (f:Pr->Value->List Value)(p:Pr)(s:Value):∀(P:List Pr) (S:List Value) (i:Nat),List.zipWith f (P.set i p) (S.set i s)=(List.zipWith f P S).set i (f p s)
 | [],S,i=>by simp
 | _::P,[],i=>by cases i <;> simp
 | q::P,t::S,0=>rfl
 | q::P,t::S,i+1=>by
  rw[List.set_cons_succ,List.set_cons_succ,List.zipWith_cons_cons,List.zipWith_cons_cons,List.set_cons_succ,Qtj f p s P S i]
theorem Dif.symm {a b:Option Nat}(h:Dif a b):Dif b a:=by
 cases b with
 | none=>exact .inl rfl
 | some b=>exact .inr λe=>h.elim (λh=>by rw[h] at e;cases e) (λh=>h e.symm)
theorem Qe8 {s:Value}{b:Nat}{l:List Int}(h:Ints w b s l):∃ad n c,s=.slice ad n c:=by
 rcases h.2 with⟨rfl,_⟩|⟨g,cap,cur,rfl,_⟩
 ·exact⟨_,_,_,rfl⟩
 ·exact⟨_,_,_,rfl⟩
theorem Mine.parent (h:Mine B w lv pv L P SL)(i:Nat)(hi:i<P.length)(p:Pr)(hp:p.Ok)(s:Value)(hs:Ints w 0 s p.loose)(hb:∀g,s.ownBlock=some g->¬B g)(h1:Dif lv.ownBlock s.ownBlock)(h2:Dif pv.ownBlock s.ownBlock)(h3:∀j t,j≠i->SL[j]?=some t->Dif s.ownBlock t.ownBlock):
  ∃g cap,pv=.slice (some ⟨g,0,none⟩) P.length cap/\¬B g/\w.there g (i*66) 66/\Mine B (w.setCells g (i*66) (p.cells s)) lv pv L (P.set i p) (SL.set i s)/\w.grownBy (w.setCells g (i*66) (p.cells s)) (some g):=by
 have hzl:=Qgy h;obtain⟨g,cap,rfl⟩:=Qm8 h.po (by rw[hzl];omega)
 have hq:i<(List.zipWith Pr.cells P SL).length:=by rw[hzl];exact hi
 obtain⟨sad,sn,sc,rfl⟩:=Qe8 hs;obtain⟨h4,h5⟩:=OwnC.put h.po i hq (p.cells (.slice sad sn sc)) (Pr.cells_length hp _) (p.cells_one sad sn sc);have hne:∀x:Value,Dif (some g) x.ownBlock->x.ownBlock=none\/x.ownBlock≠some g:=λx hx=>.inr λe=>hx.elim (λe2=>nomatch e2) (λe2=>e2 e.symm)
 have h6:=OwnC.there h.po i hq;rw[hzl] at h4 |-;have hsl:i<SL.length:=by rw[h.len];exact hi
 refine⟨g,cap,rfl,h.op g rfl,h6,?_,h5⟩
 exact { h with
  pok:=λx hx=>(List.mem_or_eq_of_mem_set hx).elim (h.pok x) (λe=>e ▸ hp)
  lo:=h.lo.grown h5 (hne lv h.dlp.symm)
  len:=by rw[List.length_set,List.length_set,h.len]
  po:=by rw[Qtj];exact h4
  so:=λj q t hq ht=>by
   by_cases hj:i=j
   ·subst hj
    rw[List.getElem?_set_self hi] at hq;rw[List.getElem?_set_self hsl] at ht
    cases hq
    cases ht
    exact World.ownsRow.kept hs h5 (hne _ h2)
   ·rw[List.getElem?_set_ne hj] at hq ht
    exact World.ownsRow.kept (h.so j q t hq ht) h5 (hne t (h.dps t (List.mem_of_getElem? ht)))
  dls:=λt ht=>(List.mem_or_eq_of_mem_set ht).elim (h.dls t) (λe=>e ▸ h1)
  dps:=λt ht=>(List.mem_or_eq_of_mem_set ht).elim (h.dps t) (λe=>e ▸ h2)
  dss:=λa b x y hab hx hy=>by
   by_cases ha:i=a
   ·subst ha
    rw[List.getElem?_set_self hsl] at hx;rw[List.getElem?_set_ne hab] at hy
    cases hx
    exact h3 b y (λe=>hab e.symm) hy
   ·rw[List.getElem?_set_ne ha] at hx
    by_cases hb2:i=b
    ·subst hb2
     rw[List.getElem?_set_self hsl] at hy
     cases hy
     exact(h3 a x (λe=>ha e.symm) hx).symm
    ·rw[List.getElem?_set_ne hb2] at hy
     exact h.dss a b x y hab hx hy
  os:=λt ht=>(List.mem_or_eq_of_mem_set ht).elim (h.os t) (λe=>e ▸ hb)
  bnd:=λk hk=>zC (h.bnd k hk) h5.size }
theorem Mine.moreLeaf (h:Mine B w lv pv L P SL)(b c:Nat)(l:Lf)(hl:l.Ok)(hb:w.rangeAt b 0 l.cells)(hn:L.length<1000000):
  ∃v' w',(Builtin.append_ #[42,42] 42 #[lv,.slice (some ⟨b,0,none⟩) 1 c]).run Tryz.prog w=.ok v' w'/\Mine B w' v' pv (L++[l]) P SL/\w.grownBy w' lv.ownBlock:=by
 obtain⟨v',w',e1,e2,e3,e4⟩:=Qn7 w lv _ h.lo b c l.cells (Lf.cells_length hl) l.cells_one hb (by rw[List.length_map];omega)
 refine⟨v',w',e1,?_,e3⟩
 exact { h with
  lok:=λx hx=>(List.mem_append.1 hx).elim (h.lok x) (λe=>(List.mem_singleton.1 e) ▸ hl)
  lo:=by rw[List.map_append];exact e2
  po:=h.po.grown e3 h.dlp.symm
  so:=λj p s hp hs=>World.ownsRow.kept (h.so j p s hp hs) e3 (h.dls s (List.mem_of_getElem? hs)).symm
  dlp:=by
   rcases e4 with e|e
   ·rw[e];exact h.dlp
   ·exact .inr λe2=>by have:=(h.po.2.lt _ (e2.symm.trans e)).2;omega
  dls:=λs hs=>by
   rcases e4 with e|e
   ·rw[e];exact h.dls s hs
   ·obtain⟨i,hi,rfl⟩:=List.getElem_of_mem hs
    exact .inr λe2=>by have:=((h.so i (P[i]'(by rw[<-h.len];exact hi)) _ (List.getElem?_eq_getElem _) (List.getElem?_eq_getElem hi)).lt _ (e2.symm.trans e)).2;omega
  ol:=λg e=>by
   rcases e4 with e2|e2
   ·exact h.ol g (by rw[<-e2];exact e)
   ·rw[e2] at e;cases e
    exact λb=>Nat.lt_irrefl _ (h.bnd _ b)
  bnd:=λk hk=>zC (h.bnd k hk) e3.size }
theorem Mine.blank (h:Mine B w lv pv L P SL)(i:Nat)(hi:i<P.length):
  ∃g cap,pv=.slice (some ⟨g,0,none⟩) P.length cap/\¬B g/\w.there g (i*66) 66/\Mine B (w.setCells g (i*66) (Pr.zero.cells (.slice none 0 0))) lv pv L (P.set i Pr.zero) (SL.set i (.slice none 0 0))/\w.grownBy (w.setCells g (i*66) (Pr.zero.cells (.slice none 0 0))) (some g):=by
 refine h.parent i hi Pr.zero Pr.zero_ok _ (World.ownsRow_nil _ _ _ _) (λ_ e=>nomatch e) ?_ ?_ (λ_ _ _ _=>.inl rfl)
 ·exact Dif.symm (.inl rfl)
 ·exact Dif.symm (.inl rfl)
end
theorem Qbb (w:World)(b k:Nat)(v:Value):w.grownBy (w.setCell ⟨b,k,none⟩ v) (some b):=
 ⟨rfl,rfl,rfl,by simp[World.setCell],λi _ hne=>Below.heap_setCell _ _ _ _ (λe=>hne (by rw[e]))⟩
theorem Qa6 (w:World)(b:Nat)(cs:Array Value):w.grownBy (w.setRow b cs) (some b):=
 ⟨rfl,rfl,rfl,by simp[World.setRow],λi _ hne=>setRow_other w b i cs (λe=>hne (by rw[e]))⟩
section
variable {P:Program} {ops:Array Oper} {rest:List Oper} {o:Oper} {a:Act} {w:World} {Q:Exit->Act->World->Prop}
theorem Qqm (w:World)(ty:TypeId)(b k:Nat)(cs:List Value)(t:TypeId)(v:Value)(hg:w.heap[b]?=some (.cells cs.toArray t (0,0)))(hk:k<cs.length)(hv:v.oneCell'=true)(hi:(P.info? ty).map (·.size)=some 1):(storeVar ty ⟨b,k,none⟩ v).run P w=.ok () (w.setCell ⟨b,k,none⟩ v):=by
 have hc:w.cell? ⟨b,k,none⟩=some cs[k]:=by rw[cell_of_row w b k _ _ _ hg];simp[List.getElem?_eq_getElem hk]
 have hst:=run_storeCells_cells (P:=P) b k [v] 0 w (λj hj=>by
   obtain rfl:j=0:=by simpa using hj
   simpa using Option.isSome_iff_exists.2 ⟨_,hc⟩) (λj hj=>by
   simp[World.frozen?,hg]) (λx hx=>by rw[List.mem_singleton.1 hx];exact hv)
 have hcs:v.cells = #[v]:=by cases v <;> first|rfl|cases hv
 cases hq:P.info? ty with
 | none=>simp[hq] at hi
 | some i=>
  have hs:i.size=1:=by simpa [hq] using hi
  simp[storeVar,sizeOf,typeInfo,hq,hcs,hs,hst]
  rfl
theorem Qcd (hw:Region.wanted o (yielded ops a.tmps)=true)(ty:TypeId)(x y:Operand)(ho:o.op=.store ty x y)(b k:Nat)(cs:List Value)(t:TypeId)(v:Value)(hx:a.eval x=.pointer (some ⟨b,k,none⟩))(hy:a.eval y=v)
  (hg:w.heap[b]?=some (.cells cs.toArray t (0,0))) (hk:k<cs.length) (hv:v.oneCell'=true) (hi:(P.info? ty).map (·.size)=some 1) (hq:wpList P ops Q rest (a.put o.dst undef) (w.setCell ⟨b,k,none⟩ v)):wpList P ops Q (o::rest) a w:=by
 refine wpList_step λK hK=>?_
 rw[zG hw];have hrun:=Qqm (P:=P) w ty b k cs t v hg hk hv hi;unfold Oper.wp execOp;simp only[ho,hx,hy,Instr.storeAt,Instr.sureAddr,Sem.run_bind,Sem.run_pure,Result.andThen_ok,hrun];exact hK _ _ hq
theorem Qee (hw:Region.wanted o (yielded ops a.tmps)=true)(ty:TypeId)(x y:Operand)(ho:o.op=.store ty x y)(b k:Nat)(cells:Array Value)(hx:a.eval x=.pointer (some ⟨b,k,none⟩))(hy:a.eval y=.agg cells)
  (ht:w.there b k cells.size) (hi:(P.info? ty).map (·.size)=some cells.size) (h1:cells.all (·.oneCell')=true) (hq:wpList P ops Q rest (a.put o.dst undef) (w.setCells b k cells.toList)):wpList P ops Q (o::rest) a w:=by
 refine wpList_step λK hK=>?_
 rw[zG hw];exact wp_store_mid ty x y ho b k cells hx hy ht hi h1 (hK _ _ hq)
end
theorem Qht {P:Program}{fn:Func}{p u:Tmp}{ty:TypeId}(h:fn.results = #[.cell p ty,.tmp u])(tmps:Array Value)(w:World)(g:Nat)(t:TypeId)(cs:Array Value)(fr:Nat × Nat)(d:TypeDesc)
  (hp:tmps.getD p undef=.pointer (some ⟨g,0,none⟩)) (hg:w.heap[g]?=some (.cells cs t fr))
  (hu:P.underlying ty=some d) (hd:(match d with | .struct _ | .array _ _=>true|_=>false)=true) (hi:(P.info? ty).map (·.size)=some cs.size) :
  (results fn tmps).run P w=.ok (.tuple #[.agg cs,tmps.getD u undef]) w:=by
 have hp':tmps[p]?.getD undef=.pointer (some ⟨g,0,none⟩):=by simpa using hp
 simp[results,h,hp',asAddr,run_loadVar_row w g t ty cs fr d hg hu hd hi]
theorem Qlf (w:World):(Instr.alloc 45 true (.tuple #[])).run Tryz.prog w=.ok (.pointer (some ⟨w.heap.size,0,none⟩)) (w.alloc (.cells #[.slice none 0 0,.slice none 0 0] 45)):=by kernel_rfl
theorem leafFullZ:∃ i z,Tryz.prog.info? 122=some i/\i.zero=some z/\i.size=97:=by
 obtain⟨i,z,h1,h2,_,h3,_⟩:=Qdp leafFullAll;exact⟨i,z,h1,h2,h3⟩
theorem parentFullZ:∃ i z,Tryz.prog.info? 124=some i/\i.zero=some z/\i.size=66:=by
 obtain⟨i,z,h1,h2,_,h3,_⟩:=Qdp parentFullAll;exact⟨i,z,h1,h2,h3⟩
theorem Qf4 {w:World}{b:Nat}{cs:List Value}{t:TypeId}(h:w.heap[b]?=some (.cells cs.toArray t (0,0))):w.rangeAt b 0 cs:=λj v hv=>by
 rw[Nat.zero_add,cell_of_row w b j _ _ _ h]
 simpa using hv
theorem Qef (a b:Option Addr)(n m c d:Nat):(#[.slice a n c,.slice b m d]:Array Value).all (·.oneCell')=true:=by
 simp[Value.oneCell']
theorem Quo (z:List Value)(hz:0<z.length)(n:Nat):(madeCells z.toArray (n*z.length)).toList=(List.replicate n z).flatten:=by
 have hl:∀r∈List.replicate n z,r.length=z.length:=λr hr=>by rw[(List.mem_replicate.1 hr).2]
 have hf:=flat_len z.length _ hl;rw[List.length_replicate] at hf;apply List.ext_getElem?;intro j
 by_cases hj:j<n*z.length
 ·have hq:j/z.length<n:=(Nat.div_lt_iff_lt_mul hz).2 hj
  have hm:j%z.length<z.length:=Nat.mod_lt _ hz;have h2:=Qep z.length _ hl (j/z.length) (by rw[List.length_replicate];exact hq) (j%z.length) hm
  rw[Nat.mul_comm (j/z.length),Nat.div_add_mod,List.getElem_replicate] at h2;rw[h2];simp[madeCells,hj,hm]
 ·rw[List.getElem?_eq_none (by rw[Array.length_toList,size_madeCells];omega),List.getElem?_eq_none (by rw[hf];omega)]
theorem Qum (w:World)(T E:TypeId)(size bytes:Nat)(z:List Value)(hz1:∀y∈z,y.oneCell'=true)(hT:Tryz.prog.underlying T=some (.slice E))(hf:(Tryz.prog.info? E).map (λi=>(i.zero.map (·.cells.size),i.size,i.bytes))=some (some size,size,bytes))(hz:(Tryz.prog.info? E).bind (λi=>i.zero.map (·.cells))=some z.toArray)(hs:z.length=size)(hpos:0<size)(hb:bytes<=1000)(n:Nat)(hn:n<=1000):
  ∃w',(Instr.makeSlice T (.int .i64 (n:Int)) (.int .i64 (n:Int))).run Tryz.prog w=.ok (.slice (some ⟨w.heap.size,0,none⟩) n n) w'/\OwnC w' 0 E size (.slice (some ⟨w.heap.size,0,none⟩) n n) (List.replicate n z)/\w.grownBy w' none:=by
 obtain⟨i,zv,hi,hzz,_,hsz,hby⟩:=Qdp hf;rw[hi] at hz;simp only[Option.bind_some,hzz,Option.map_some,Option.some.injEq] at hz
 have h1:i.bytes*n<=281474976710656:=by
  rw[hby];exact Nat.le_trans (Nat.mul_le_mul hb hn) (by decide)
 obtain⟨w',e1,e2,e3⟩:=run_make_full (P:=Tryz.prog) w 0 T E i zv size hT hi hzz hsz .i64 .i64 n h1 (by unfold maxLen;omega) (Nat.zero_le _)
 refine⟨w',e1,⟨λr hr=>?_,?_⟩,e3⟩
 ·rw[(List.mem_replicate.1 hr).2];exact⟨hs,hz1⟩
 ·rw[List.length_replicate,<-Quo z (by omega),<-hz,hs]
  exact e2
section
variable {P:Program} {o:Oper} {a:Act} {w w':World} {K:Act->World->Prop} {Q:Exit->Act->World->Prop}
theorem Qlh (t:TypeId)(x y:Operand)(ho:o.op=.makeSlice t x y)(d:Option Tmp)(hd:o.dst=d)(n c v:Value)(hx:a.eval x=n)(hy:a.eval y=c)(hr:(Instr.makeSlice t n c).run P w=.ok v w')(h:K (a.put d v) w'):o.wp P a w K Q:=by
 subst hd;unfold Oper.wp execOp;simp only[ho,hx,hy,Sem.run_bind,hr,Result.andThen_ok,Sem.run_pure];exact h
theorem Qa1 (t:TypeId)(ho:o.op=.alloc t)(d:Option Tmp)(hd:o.dst=d)(v:Value)(hr:(Instr.alloc t true (.tuple #[])).run P w=.ok v w')(h:K (a.put d v) w'):o.wp P a w K Q:=by
 subst hd;unfold Oper.wp execOp;simp only[ho,Sem.run_bind,hr,Result.andThen_ok,Sem.run_pure];exact h
theorem Qau (ty:TypeId)(x y:Operand)(ho:o.op=.store ty x y)(hd:o.dst=none)(g:Nat)(cells:Array Value)(hx:a.eval x=.pointer (some ⟨g,0,none⟩))(hy:a.eval y=.agg cells)
  (t:TypeId) (old:Array Value) (hg:w.heap[g]?=some (.cells old t (0,0))) (hi:(P.info? ty).map (·.size)=some cells.size) (hold:old.size=cells.size) (h1:cells.all (·.oneCell')=true)
  (h:K a (w.setRow g cells)):o.wp P a w K Q:=
 wp_store_row ty x y ho g cells hx hy t old hg hi hold h1 (by rw[hd];exact h)
end
end Go.Proofs.YtnlbgggnpoeleaaGreatDoor
