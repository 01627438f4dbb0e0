/-
 BoughDirect; BoughCommon; BoughSeg; BoughLow; BoughRef; BoughRefs; BoughRDir; BoughSame; BoughWays; BoughRCom; BoughAwake; BoughLen; BoughLaws: several texts in one.
-/
import Derived.Test.YtnlbgggnpoeleaaGreatDoorHJ
import Derived.Laws.OwnMore
import Derived.Test.YtnlbgggnpoeleaaGreatDoorShelf
set_option maxRecDepth 100000
set_option maxHeartbeats 3200000
namespace Go.Proofs.YtnlbgggnpoeleaaGreatDoor
open Go.RowKit Go.Shelf Go.Lib
attribute [local go_sem] Oper.semAt_some
theorem intInfo:(Tryz.prog.info? 3).map (λi=>(i.zero,i.size,i.bytes))=some (some (.int .i64 0),1,8):=by kernel_rfl
def Ints (w:World)(base:Nat)(v:Value)(L:List Int):Prop:=w.ownsRow base 3 1 v L.length (L.map (Value.int .i64))
theorem Qfi {w:World}{base base':Nat}{e:TypeId}{size:Nat}{v:Value}{n:Nat}{xs:List Value}(h:w.ownsRow base e size v n xs)(hb:base'<=base):w.ownsRow base' e size v n xs:=by
 refine⟨h.1,h.2.imp (λx=>x) ?_⟩
 rintro⟨g,cap,cur,h1,h2,h3⟩;exact⟨g,cap,cur,h1,Nat.le_trans hb h2,h3⟩
def Bo.Direct (n leaf:Int):List Int:=if Bo.leaf n leaf then Bo.ups n (2*leaf) else []
attribute [local go_sem] Oper.semAt_some
def Bo.lowest (n a b:Int):Int:=((Bo.ups n (2*a)).find? (λx=>Bo.Holds n x b)).getD (-1)
def Bo.Common (n a b:Int):Int:=if Bo.leaf n a then(if a=b then 2*a else Bo.lowest n a b) else -1
end Go.Proofs.YtnlbgggnpoeleaaGreatDoor
namespace Go.Proofs.YtnlbgggnpoeleaaGreatDoor
inductive Bo.Seg (n:Nat):Nat->Nat->Int->Int->Prop
 | top:Bo.Seg n 0 n (-1) (-1)
 | left {a m:Nat} {p b:Int}:Bo.Seg n a m p b->2<=m->Bo.Seg n a (Bo.half m) (Bo.root a m) (Bo.root (a+Bo.half m) (m-Bo.half m))
 | right {a m:Nat} {p b:Int}:Bo.Seg n a m p b->2<=m->Bo.Seg n (a+Bo.half m) (m-Bo.half m) (Bo.root a m) (Bo.root a (Bo.half m))
theorem Bo.Seg.size {n a m:Nat}{p b:Int}(h:Bo.Seg n a m p b)(h1:1<=n):1<=m/\a+m<=n:=by
 induction h with
 | top=>omega
 | left _ h2 ih=>have:=Bo.half_pos ‹Nat›;have:=Bo.half_lt h2;omega
 | right _ h2 ih=>have:=Bo.half_pos ‹Nat›;have:=Bo.half_lt h2;omega
theorem Bo.Seg.way {n a m:Nat}{p b:Int}(h:Bo.Seg n a m p b)(h64:n<=64):∃k,m<=k/\∀y,Bo.In a m y->Bo.part n y=Bo.down k a m y p b:=by
 induction h with
 | top=>exact⟨64,h64,λy _=>rfl⟩
 | @left a m p b hs h2 ih=>
  obtain⟨k,hk,hy⟩:=ih;have h3:=Bo.half_lt h2;have h4:=Bo.half_pos m;refine⟨k-1,by omega,λy hin=>?_⟩
  obtain⟨i1,i2,i3⟩:=hin;rw[hy y ⟨by omega,i2,by omega⟩,Bo.down_left (by omega) (by rw[Bo.root_two h2];omega)]
 | @right a m p b hs h2 ih=>
  obtain⟨k,hk,hy⟩:=ih;have h3:=Bo.half_lt h2;have h4:=Bo.half_pos m;refine⟨k-1,by omega,λy hin=>?_⟩
  obtain⟨i1,i2,i3⟩:=hin;rw[hy y ⟨by omega,by omega,by omega⟩,Bo.down_right (by omega) (by rw[Bo.root_two h2];omega)]
theorem Bo.root_in {a m:Nat}(h:1<=m):Bo.In a m (Bo.root a m):=⟨h,Bo.root_ge h,Bo.root_le h⟩
theorem Bo.Seg.part {n a m:Nat}{p b:Int}(h:Bo.Seg n a m p b)(h1:1<=n)(h64:n<=64):Bo.part n (Bo.root a m)=(a,m,p,b):=by
 obtain⟨k,hk,hy⟩:=h.way h64;have hs:=h.size h1;rw[hy _ (Bo.root_in hs.1),Bo.down_root (by omega) rfl]
theorem Bo.seg_down (n:Nat):∀(k a m x:Nat) (p b:Int),m<=k->Bo.In a m x->Bo.Seg n a m p b->∃a' m' p' b',Bo.Seg n a' m' p' b'/\Bo.root a' m'=x:=by
 intro k
 induction k with
 | zero=>intro a m x p b h1 h2;have:=h2.1;omega
 | succ k ih=>
  intro a m x p b h1 h2 h3
  rcases Nat.lt_trichotomy (Bo.root a m) x with hr|hr|hr
  ·have h4:=Bo.two_of h2 (by omega)
   have h5:=Bo.half_lt h4;have h6:=Bo.half_pos m;exact ih _ _ x _ _ (by omega) (Bo.in_right h2 hr h4) (.right h3 h4)
  ·exact⟨a,m,p,b,h3,hr⟩
  ·have h4:=Bo.two_of h2 (by omega)
   have h5:=Bo.half_lt h4;exact ih _ _ x _ _ (by omega) (Bo.in_left h2 hr h4) (.left h3 h4)
theorem Bo.seg_of {n x:Nat}(h:Bo.In 0 n x)(h64:n<=64):∃a m p b,Bo.Seg n a m p b/\Bo.root a m=x/\Bo.part n x=(a,m,p,b)/\1<=m/\a+m<=n:=by
 obtain⟨a,m,p,b,h1,h2⟩:=Bo.seg_down n 64 0 n x (-1) (-1) h64 h .top;exact⟨a,m,p,b,h1,h2,by rw[<-h2];exact h1.part h.1 h64,h1.size h.1⟩
theorem Bo.say {n x a m:Nat}{p b:Int}(h:Bo.In 0 n x)(h64:n<=64)(hp:Bo.part n x=(a,m,p,b)):
  Bo.Above n x=p/\Bo.Beside n x=b/\Bo.First n x=a/\Bo.Behind n x=(a+m:Nat):=by
 have ht:=Bo.there_of h h64;refine⟨?_,?_,?_,?_⟩
 ·rw[Bo.Above,zG ht,Int.toNat_natCast,Int.toNat_natCast,hp]
 ·rw[Bo.Beside,zG ht,Int.toNat_natCast,Int.toNat_natCast,hp]
 ·rw[Bo.First,zG ht,Int.toNat_natCast,Int.toNat_natCast,hp]
 ·rw[Bo.Behind,zG ht,Int.toNat_natCast,Int.toNat_natCast,hp]
def Bo.parts:Nat->Nat->Nat->Nat->List (Nat × Nat)->List (Nat × Nat)
 | 0,_,_,_,acc=>acc
 | k+1,a,m,x,acc=>
  if Bo.root a m=x then acc
  else if x<Bo.root a m then Bo.parts k a (Bo.half m) x ((a,m)::acc)
  else Bo.parts k (a+Bo.half m) (m-Bo.half m) x ((a,m)::acc)
def Bo.both:Nat->Nat->Nat->Nat->Nat->Nat
 | 0,a,m,_,_=>Bo.root a m
 | k+1,a,m,x,y=>
  if x<a+Bo.half m/\y<a+Bo.half m then Bo.both k a (Bo.half m) x y
  else if a+Bo.half m<=x/\a+Bo.half m<=y then Bo.both k (a+Bo.half m) (m-Bo.half m) x y
  else Bo.root a m
end Go.Proofs.YtnlbgggnpoeleaaGreatDoor
namespace Go.Proofs.YtnlbgggnpoeleaaGreatDoor
open Go.RowKit Go.Lib
open List renaming setIfInBounds_toArray -> sA, set_cons_zero -> sB, set_cons_succ -> sC
open BigFrame renaming wpList_want -> wQ
theorem Qhr (n x:Int)(w:World):Calls Tryz.prog 151 #[.int .i64 n,.int .i64 x] w λe w'=>e=.returned (.bool (Bo.there n x))/\w'=w:=by
 by_cases h1:1<=n
 ·by_cases h2:n<=64
  ·by_cases h3:0<=x
   ·go_enter Tryz.func151,Tryz.ntmps151
    go_wp2;go_ret;exact⟨by simp[Bo.there,h1,h2,h3],rfl⟩
   ·have h5:¬x>=0:=h3
    go_enter Tryz.func151,Tryz.ntmps151
    go_wp2;go_ret;exact⟨by simp[Bo.there];omega,rfl⟩
  ·go_enter Tryz.func151,Tryz.ntmps151
   go_wp2;go_ret;exact⟨by simp[Bo.there];omega,rfl⟩
 ·have h5:¬n>=1:=h1
  go_enter Tryz.func151,Tryz.ntmps151
  go_wp2;go_ret;exact⟨by simp[Bo.there];omega,rfl⟩
theorem Qf2 (m:Nat)(h2:2<=m)(h64:m<=64)(w:World):Calls Tryz.prog 167 #[.int .i64 (m:Int)] w λe w'=>e=.returned (.int .i64 (Bo.half m:Int))/\w'=w:=by
 have hm64:(m:Int)<=64:=by omega
 have HH:Hid (∀i:Nat,2 ^ i<m->¬2*2 ^ i<m->Bo.half m=2 ^ i):=hid (λi h1 h2=>Bo.half_one h1 h2)
 go_enter Tryz.func167,Tryz.ntmps167
 go_wp2
 go_loopw [3] (λs3 w9=>∃i:Nat,s3=.int .i64 ((2 ^ i:Nat):Int)/\Hid (2 ^ i<m)/\w9=w) (λs3 _=>m-(RowKit.intOf s3).toNat)
 case atStart=>exact⟨0,rfl,hid (by omega),rfl⟩
 case round=>
  obtain⟨i,rfl,hlt,hw⟩:=hrel;subst wr;have hlt':=hlt.out;have hpos:=Nat.one_le_two_pow (n:=i);have HP:Hid (2 ^ (i+1)=2*2 ^ i):=hid (by rw[Nat.pow_succ];omega)
  have HU:=hid (λh:¬2*2 ^ i<m=>HH.out i hlt.out h)
  generalize hk:2 ^ i=k at hlt' hpos HP HU |-;have HK:=hid hk;clear hk;have hki:(k:Int)<=64:=by omega
  by_cases hc:2*k<m
  ·have hc':2*(k:Int)<(m:Int):=by omega
   go_wp2
   go_roundw
   case rel=>exact⟨i+1,by rw[HP.out];simp,hid (by rw[HP.out];exact hc),trivial⟩
   case measure=>simp[RowKit.intOf];omega
  ·have hc':¬2*(k:Int)<(m:Int):=by omega
   go_wp2;go_ret;exact⟨by rw[HU.out hc];rfl,rfl⟩
theorem Qdk (a m:Nat)(h1:1<=m)(h64:a+m<=64)(w:World):Calls Tryz.prog 166 #[.int .i64 (a:Int),.int .i64 (m:Int)] w λe w'=>e=.returned (.int .i64 (Bo.root a m:Int))/\w'=w:=by
 have hm64:(m:Int)<=64:=by omega
 have ha64:(a:Int)<=64:=by omega
 rcases Nat.lt_or_ge m 2 with h2|h2
 ·obtain rfl:m=1:=by omega
  rw[Bo.root_one]
  go_enter Tryz.func166,Tryz.ntmps166
  go_wp2;go_ret;exact⟨by simp,rfl⟩
 ·have hh:=Bo.half_lt h2
  have hp:=Bo.half_pos m;have hcall:=λw=>Qf2 m h2 (by omega) w
  rw[Bo.root_two h2];generalize Bo.half m=h at hh hp hcall |-;have hne:((m:Int) == 1)=false:=by simp;omega
  have hwa:(a:Int)+(h:Int)<=64:=by omega
  have hwb:0<(a:Int)+(h:Int):=by omega
  have HC:=hid hcall;have HE:=hid (show((2*(a+h)-1:Nat):Int)=2*((a:Int)+(h:Int))-1 by omega)
  clear hcall hh hp
  go_enter Tryz.func166,Tryz.ntmps166
  go_wp2_with (go_at_call 167;refine(HC.out _).mono ?_;rintro e w1 ⟨rfl,hw1⟩;subst w1)
  go_ret;exact⟨by rw[HE.out];rfl,rfl⟩
theorem Qej {fn:Func}{t u v z:Tmp}(h:fn.results = #[.tmp t,.tmp u,.tmp v,.tmp z])(tmps:Array Value)(P:Program)(w:World):
  (results fn tmps).run P w=.ok (.tuple #[tmps.getD t undef,tmps.getD u undef,tmps.getD v undef,tmps.getD z undef]) w:=by
 simp[results,h]
theorem Qoq:∀ (k a m x:Nat) (p b:Int),m<=k->Bo.In a m x->a+m<=64->∀w:World,Calls Tryz.prog 152 #[.int .i64 (a:Int),.int .i64 (m:Int),.int .i64 (x:Int),.int .i64 p,.int .i64 b] w λe w'=>e=.returned (.tuple #[.int .i64 ((Bo.down k a m x p b).1:Int),.int .i64 ((Bo.down k a m x p b).2.1:Int),.int .i64 (Bo.down k a m x p b).2.2.1,.int .i64 (Bo.down k a m x p b).2.2.2])/\w'=w:=by
 intro k
 induction k with
 | zero=>intro a m x p b h1 h2;have:=h2.1;omega
 | succ k ih=>
  intro a m x p b h1 h2 h3 w;have hroot:=λw=>Qdk a m h2.1 h3 w
  rcases Nat.lt_trichotomy (Bo.root a m) x with hr|hr|hr
  ·have h4:=Bo.two_of h2 (by omega)
   have h5:=Bo.half_lt h4;have h6:=Bo.half_pos m;have hhalf:=λw=>Qf2 m h4 (by omega) w
   have hl:=λw=>Qdk a (Bo.half m) h6 (by omega) w
   have hrr:=λw=>Qdk (a+Bo.half m) (m-Bo.half m) (by omega) (by omega) w
   have hnext:=λw=>ih (a+Bo.half m) (m-Bo.half m) x (Bo.root a m) (Bo.root a (Bo.half m)) (by omega) (Bo.in_right h2 hr h4) (by omega) w
   rw[show Bo.down (k+1) a m x p b=Bo.down k (a+Bo.half m) (m-Bo.half m) x (Bo.root a m) (Bo.root a (Bo.half m)) from Bo.down_right (by omega) hr]
   generalize Bo.down k (a+Bo.half m) (m-Bo.half m) x (Bo.root a m) (Bo.root a (Bo.half m))=D at hnext |-;obtain⟨D1,D2,D3,D4⟩:=D
   dsimp only at hnext |-
   have hne:((Bo.root a m:Int) == (x:Int))=false:=by simp;omega
   have hlt:¬(x:Int)<(Bo.root a m:Int):=by omega
   have e1:((a+Bo.half m:Nat):Int)=(a:Int)+(Bo.half m:Int):=by omega
   have e2:((m-Bo.half m:Nat):Int)=(m:Int)-(Bo.half m:Int):=by omega
   rw[e1,e2] at hrr hnext;generalize Bo.root (a+Bo.half m) (m-Bo.half m)=r2 at hrr;generalize Bo.root a (Bo.half m)=r1 at hl hnext;generalize Bo.root a m=r at hroot hnext hne hlt;generalize Bo.half m=h at hhalf hl hrr hnext h5 h6;have f1:(a:Int)+(h:Int)<=64:=by omega
   have f2:0<=(m:Int)-(h:Int):=by omega
   have f3:(m:Int)<=64:=by omega
   have H1:=hid hroot;have H2:=hid hhalf;have H3:=hid hl;have H4:=hid hrr;have H5:=hid hnext;clear hroot hhalf hl hrr hnext ih h1 h2 h3 h4 h5 h6 hr e1 e2
   go_enter Tryz.func152,Tryz.ntmps152
   go_wp2_with (first
    | (go_at_call 166;refine(H1.out _).mono ?_;rintro e w1 ⟨rfl,hw1⟩;subst w1;clear H1)
    | (go_at_call 167;refine(H2.out _).mono ?_;rintro e w1 ⟨rfl,hw1⟩;subst w1;clear H2)
    | (go_at_call 166;refine(H3.out _).mono ?_;rintro e w1 ⟨rfl,hw1⟩;subst w1;clear H3)
    | (go_at_call 166;refine(H4.out _).mono ?_;rintro e w1 ⟨rfl,hw1⟩;subst w1;clear H4)
    | (go_at_call 152;refine(H5.out _).mono ?_;rintro e w1 ⟨rfl,hw1⟩;subst w1;clear H5))
   refine bodyPost_ret (Qej rfl _ _ _) rfl ?_;exact⟨rfl,rfl⟩
  ·rw[Bo.down_root (Nat.succ_le_succ (Nat.zero_le _)) hr]
   have hroot:∀w,Calls Tryz.prog 166 #[.int .i64 (a:Int),.int .i64 (m:Int)] w λe w'=>e=.returned (.int .i64 (x:Int))/\w'=w:=λw=>by rw[<-hr];exact hroot w
   have H1:=hid hroot;clear hroot ih h1 h2 h3 hr
   go_enter Tryz.func152,Tryz.ntmps152
   go_wp2_with (go_at_call 166;refine(H1.out _).mono ?_;rintro e w1 ⟨rfl,hw1⟩;subst w1)
   refine bodyPost_ret (Qej rfl _ _ _) rfl ?_;exact⟨rfl,rfl⟩
  ·have h4:=Bo.two_of h2 (by omega)
   have h5:=Bo.half_lt h4;have h6:=Bo.half_pos m;have hhalf:=λw=>Qf2 m h4 (by omega) w
   have hl:=λw=>Qdk a (Bo.half m) h6 (by omega) w
   have hrr:=λw=>Qdk (a+Bo.half m) (m-Bo.half m) (by omega) (by omega) w
   have hnext:=λw=>ih a (Bo.half m) x (Bo.root a m) (Bo.root (a+Bo.half m) (m-Bo.half m)) (by omega) (Bo.in_left h2 hr h4) (by omega) w
   rw[show Bo.down (k+1) a m x p b=Bo.down k a (Bo.half m) x (Bo.root a m) (Bo.root (a+Bo.half m) (m-Bo.half m)) from Bo.down_left (by omega) hr]
   generalize Bo.down k a (Bo.half m) x (Bo.root a m) (Bo.root (a+Bo.half m) (m-Bo.half m))=D at hnext |-;obtain⟨D1,D2,D3,D4⟩:=D
   dsimp only at hnext |-
   have hne:((Bo.root a m:Int) == (x:Int))=false:=by simp;omega
   have hlt:(x:Int)<(Bo.root a m:Int):=by omega
   have e1:((a+Bo.half m:Nat):Int)=(a:Int)+(Bo.half m:Int):=by omega
   have e2:((m-Bo.half m:Nat):Int)=(m:Int)-(Bo.half m:Int):=by omega
   rw[e1,e2] at hrr;generalize Bo.root (a+Bo.half m) (m-Bo.half m)=r2 at hrr hnext;generalize Bo.root a (Bo.half m)=r1 at hl;generalize Bo.root a m=r at hroot hnext hne hlt;generalize Bo.half m=h at hhalf hl hrr hnext h5 h6;have f1:(a:Int)+(h:Int)<=64:=by omega
   have f2:0<=(m:Int)-(h:Int):=by omega
   have f3:(m:Int)<=64:=by omega
   have H1:=hid hroot;have H2:=hid hhalf;have H3:=hid hl;have H4:=hid hrr;have H5:=hid hnext;clear hroot hhalf hl hrr hnext ih h1 h2 h3 h4 h5 h6 hr e1 e2
   go_enter Tryz.func152,Tryz.ntmps152
   go_wp2_with (first
    | (go_at_call 166;refine(H1.out _).mono ?_;rintro e w1 ⟨rfl,hw1⟩;subst w1;clear H1)
    | (go_at_call 167;refine(H2.out _).mono ?_;rintro e w1 ⟨rfl,hw1⟩;subst w1;clear H2)
    | (go_at_call 166;refine(H3.out _).mono ?_;rintro e w1 ⟨rfl,hw1⟩;subst w1;clear H3)
    | (go_at_call 166;refine(H4.out _).mono ?_;rintro e w1 ⟨rfl,hw1⟩;subst w1;clear H4)
    | (go_at_call 152;refine(H5.out _).mono ?_;rintro e w1 ⟨rfl,hw1⟩;subst w1;clear H5))
   refine bodyPost_ret (Qej rfl _ _ _) rfl ?_;exact⟨rfl,rfl⟩
theorem Qon (n x:Nat)(h:Bo.In 0 n x)(h64:n<=64)(w:World):Calls Tryz.prog 152 #[.int .i64 0,.int .i64 (n:Int),.int .i64 (x:Int),.int .i64 (-1),.int .i64 (-1)] w λe w'=>e=.returned (.tuple #[.int .i64 ((Bo.part n x).1:Int),.int .i64 ((Bo.part n x).2.1:Int),.int .i64 (Bo.part n x).2.2.1,.int .i64 (Bo.part n x).2.2.2])/\w'=w:=
 Qoq 64 0 n x (-1) (-1) h64 h (by omega) w
theorem Qlp (n x:Int)(w:World):Calls Tryz.prog 131 #[.int .i64 n,.int .i64 x] w λe w'=>e=.returned (.tuple #[.int .i64 (Bo.First n x),.int .i64 (Bo.Behind n x)])/\w'=w:=by
 by_cases h:Bo.there n x=true
 ·have hT:=λw=>Qhr n x w
  rw[h] at hT;rw[Bo.First,zG h,Bo.Behind,zG h];obtain⟨n,x,rfl,rfl,h1,h2⟩:=Bo.there_nat h;rw[Int.toNat_natCast,Int.toNat_natCast];have hfind:=λw=>Qon n x h1 h2 w
  obtain⟨q1,q2,q3⟩:=Bo.part_in h1 h2;have HT:=hid hT;clear hT;generalize Bo.part n x=D at hfind q2 q3 |-;obtain⟨a,m,D3,D4⟩:=D
  dsimp only at hfind q2 q3 |-
  have hsum:(a:Int)+(m:Int)<=64:=by omega
  have HF:=hid hfind;clear hfind q1 q2 q3 h1 h2 h
  go_enter Tryz.func131,Tryz.ntmps131
  go_wp2_with (first
   | (go_at_call 151;refine(HT.out _).mono ?_;rintro e w1 ⟨rfl,hw1⟩;subst w1)
   | (go_at_call 152;refine(HF.out _).mono ?_;rintro e w1 ⟨rfl,hw1⟩;subst w1))
  go_ret2
  exact⟨by rw[Int.natCast_add];rfl,rfl⟩
 ·have hT:=λw=>Qhr n x w
  rw[show Bo.there n x=false by simpa using h] at hT
  have H1:=hid hT;clear hT;rw[Bo.First,if_neg h,Bo.Behind,if_neg h];clear h
  go_enter Tryz.func131,Tryz.ntmps131
  go_wp2_with (go_at_call 151;refine(H1.out _).mono ?_;rintro e w1 ⟨rfl,hw1⟩;subst w1)
  go_ret2
  exact⟨rfl,rfl⟩
theorem Qhs (n x leaf:Int)(w:World):Calls Tryz.prog 99 #[.int .i64 n,.int .i64 x,.int .i64 leaf] w λe w'=>e=.returned (.bool (Bo.Holds n x leaf))/\w'=w:=by
 have hL:=λw=>Qlp n x w
 rw[Bo.Holds];generalize Bo.First n x=a at hL |-;generalize Bo.Behind n x=b at hL |-;have HF:=hid hL;clear hL
 by_cases h:a<=leaf
 ·have h2:leaf>=a:=h
  go_enter Tryz.func99,Tryz.ntmps99
  go_wp2_with (go_at_call 131;refine(HF.out _).mono ?_;rintro e w1 ⟨rfl,hw1⟩;subst w1)
  go_ret;exact⟨by simp;omega,rfl⟩
 ·have h2:¬leaf>=a:=h
  go_enter Tryz.func99,Tryz.ntmps99
  go_wp2_with (go_at_call 131;refine(HF.out _).mono ?_;rintro e w1 ⟨rfl,hw1⟩;subst w1)
  go_ret;exact⟨by simp;omega,rfl⟩
theorem Ints.at {w:World}{base:Nat}{v:Value}{L:List Int}(h:Ints w base v L){k:Nat}(hk:k<L.length):∃g cap,v=.slice (some ⟨g,0,none⟩) L.length cap/\w.cell? ⟨g,k,none⟩=some (.int .i64 L[k]):=by
 rcases h.2 with⟨_,h0⟩|⟨g,cap,cur,rfl,hr⟩
 ·omega
 ·have:=World.ownsRow.cellAt (show w.ownsRow base 3 1 (.slice (some ⟨g,0,none⟩) L.length cap) L.length (L.map (Value.int .i64)) from h) k (by omega)
  refine⟨g,cap,rfl,?_⟩;rw[this];simp[hk]
theorem Ints.len {w:World}{base:Nat}{v:Value}{L:List Int}(h:Ints w base v L):∃g cap,v=.slice g L.length cap:=by
 rcases h.2 with⟨h1,h0⟩|⟨g,cap,cur,rfl,hr⟩
 ·exact⟨none,0,by rw[h1,h0]⟩
 ·exact⟨_,cap,rfl⟩
theorem Ints.kept {w w':World}{base:Nat}{v:Value}{L:List Int}(h:Ints w base v L)(k:Kept w.heap.size w.heap.size w w'):Ints w' base v L:=
 World.ownsRow.kept h (Qsv k) (by
  rcases hv:v.ownBlock with _|b
  ·exact .inl rfl
  ·exact .inr (by simp))
theorem Ints.alloc {w:World}{base:Nat}{v:Value}{L:List Int}(h:Ints w base v L)(o:Obj):Ints (w.alloc o) base v L:=h.kept (zI.alloc (zB _) _)
end Go.Proofs.YtnlbgggnpoeleaaGreatDoor
namespace Go.Proofs.YtnlbgggnpoeleaaGreatDoor
theorem lenIs:LenIs:=λx w h0 h1=>Tryz.bits_Len x w h0 h1
end Go.Proofs.YtnlbgggnpoeleaaGreatDoor
namespace Go.Proofs.YtnlbgggnpoeleaaGreatDoor
open Go.RowKit Go.Lib
open List renaming setIfInBounds_toArray -> sA, set_cons_zero -> sB, set_cons_succ -> sC
open BigFrame renaming wpList_want -> wQ
theorem Kept.next {w w1 w2:World}(h:Kept w.heap.size w.heap.size w w1)(k:Kept w1.heap.size w1.heap.size w1 w2):Kept w.heap.size w.heap.size w w2:=
 h.trans (k.mono h.size (λ_ hi _=>zD (zC hi h.size)))
end Go.Proofs.YtnlbgggnpoeleaaGreatDoor
