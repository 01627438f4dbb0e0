/-
 BoughMath; BoughUps; BoughSide; BoughSides; BoughFind; BoughAbove; BoughUp; BoughSay: several texts in one.
-/
import Derived.Test.YtnlbgggnpoeleaaGreatDoorGA
import Derived.Test.YtnlbgggnpoeleaaGreatDoorChecked
import Derived.Deep.RegionWith
import Derived.Lib.Hide
import Derived.Lib.BitFns
import Derived.Deep.Cut
import Derived.Laws.ResultCell
import Derived.LoopTactic
import Derived.RangeFuncNested
import Derived.RangeFuncBound
import Derived.RangeFuncCalls
import Derived.RangeFuncLeaves
import Derived.RangeFuncFrom
import Derived.RangeFuncBox
import Derived.Shelf.Abstract
import Derived.OwnWalkIn
import Derived.TacticsInMore
import Derived.LoopNIn
import Derived.LoopIn
import Derived.Maps.AppendAt
set_option maxRecDepth 100000
set_option maxHeartbeats 1600000
namespace Go.Proofs.YtnlbgggnpoeleaaGreatDoor
def Bo.half (m:Nat):Nat:=2 ^ Nat.log2 (m-1)
def Bo.root (a m:Nat):Nat:=if m=1 then 2*a else 2*(a+Bo.half m)-1
theorem Bo.half_pos (m:Nat):1<=Bo.half m:=Nat.one_le_two_pow
theorem Bo.half_lt {m:Nat}(h:2<=m):Bo.half m<m:=by
 have:=Nat.log2_self_le (n:=m-1) (by omega)
 unfold Bo.half
 omega
theorem Bo.half_twice {m:Nat}(h:2<=m):m<=2*Bo.half m:=by
 have:=Nat.lt_log2_self (n:=m-1);unfold Bo.half;rw[Nat.pow_succ] at this
 omega
theorem Bo.half_one {m i:Nat}(h:2 ^ i<m)(h2:¬2*2 ^ i<m):Bo.half m=2 ^ i:=by
 have hm:2<=m:=by have:=Nat.one_le_two_pow (n:=i);omega
 have h3:=Bo.half_lt hm;have h4:=Bo.half_twice hm;unfold Bo.half at *;generalize Nat.log2 (m-1)=j at *
 rcases Nat.lt_trichotomy i j with h5|h5|h5
 ·have:=Nat.pow_le_pow_right (n:=2) (by omega) h5
  rw[Nat.pow_succ] at this
  omega
 ·rw[h5]
 ·have:=Nat.pow_le_pow_right (n:=2) (by omega) h5
  rw[Nat.pow_succ] at this
  omega
theorem Bo.root_one (a:Nat):Bo.root a 1=2*a:=rfl
theorem Bo.root_two {a m:Nat}(h:2<=m):Bo.root a m=2*(a+Bo.half m)-1:=by rw[Bo.root,if_neg (by omega)]
theorem Bo.root_ge {a m:Nat}(h:1<=m):2*a<=Bo.root a m:=by
 rcases Nat.lt_or_ge m 2 with h2|h2
 ·obtain rfl:m=1:=by omega
  rw[Bo.root_one];omega
 ·rw[Bo.root_two h2];have:=Bo.half_pos m;omega
theorem Bo.root_le {a m:Nat}(h:1<=m):Bo.root a m<=2*(a+m)-2:=by
 rcases Nat.lt_or_ge m 2 with h2|h2
 ·obtain rfl:m=1:=by omega
  rw[Bo.root_one];omega
 ·rw[Bo.root_two h2];have:=Bo.half_lt h2;omega
def Bo.down:Nat->Nat->Nat->Nat->Int->Int->Nat × Nat × Int × Int
 | 0,a,m,_,p,b=>(a,m,p,b)
 | k+1,a,m,x,p,b=>
  if Bo.root a m=x then(a,m,p,b)
  else if x<Bo.root a m then Bo.down k a (Bo.half m) x (Bo.root a m) (Bo.root (a+Bo.half m) (m-Bo.half m))
  else Bo.down k (a+Bo.half m) (m-Bo.half m) x (Bo.root a m) (Bo.root a (Bo.half m))
def Bo.In (a m x:Nat):Prop:=1<=m/\2*a<=x/\x<=2*(a+m)-2
theorem Bo.two_of {a m x:Nat}(h:Bo.In a m x)(hr:Bo.root a m≠x):2<=m:=by
 obtain⟨h1,h2,h3⟩:=h
 rcases Nat.lt_or_ge m 2 with h4|h4
 ·obtain rfl:m=1:=by omega
  rw[Bo.root_one] at hr;omega
 ·exact h4
theorem Bo.in_left {a m x:Nat}(h:Bo.In a m x)(hl:x<Bo.root a m)(h2:2<=m):Bo.In a (Bo.half m) x:=by
 rw[Bo.root_two h2] at hl;exact⟨Bo.half_pos m,h.2.1,by have:=Bo.half_pos m;omega⟩
theorem Bo.in_right {a m x:Nat}(h:Bo.In a m x)(hl:Bo.root a m<x)(h2:2<=m):Bo.In (a+Bo.half m) (m-Bo.half m) x:=by
 rw[Bo.root_two h2] at hl;have:=Bo.half_pos m;have:=Bo.half_lt h2;exact⟨by omega,by omega,by have:=h.2.2;omega⟩
theorem Bo.down_root {k a m x:Nat}{p b:Int}(h:1<=k)(hr:Bo.root a m=x):Bo.down k a m x p b=(a,m,p,b):=by
 obtain⟨j,rfl⟩:∃j,k=j+1:=⟨k-1,by omega⟩
 rw[Bo.down,zG hr]
theorem Bo.down_left {k a m x:Nat}{p b:Int}(h:1<=k)(hr:x<Bo.root a m):Bo.down k a m x p b=Bo.down (k-1) a (Bo.half m) x (Bo.root a m) (Bo.root (a+Bo.half m) (m-Bo.half m)):=by
 obtain⟨j,rfl⟩:∃j,k=j+1:=⟨k-1,by omega⟩
 rw[Bo.down,if_neg (by omega),zG hr]
 rfl
theorem Bo.down_right {k a m x:Nat}{p b:Int}(h:1<=k)(hr:Bo.root a m<x):Bo.down k a m x p b=Bo.down (k-1) (a+Bo.half m) (m-Bo.half m) x (Bo.root a m) (Bo.root a (Bo.half m)):=by
 obtain⟨j,rfl⟩:∃j,k=j+1:=⟨k-1,by omega⟩
 rw[Bo.down,if_neg (by omega),if_neg (by omega)]
 rfl
theorem Bo.down_end:∀ (k a m x:Nat) (p b:Int),m<=k->Bo.In a m x->∃a' m' p' b',Bo.down k a m x p b=(a',m',p',b')/\1<=m'/\a<=a'/\a'+m'<=a+m/\Bo.root a' m'=x:=by
 intro k
 induction k with
 | zero=>intro a m x p b h1 h3;have:=h3.1;omega
 | succ k ih=>
  intro a m x p b h1 h3
  by_cases hr:Bo.root a m=x
  ·exact⟨a,m,p,b,by rw[Bo.down,zG hr],h3.1,zB _,zB _,hr⟩
  ·have h4:=Bo.two_of h3 hr
   have h5:=Bo.half_lt h4;have h6:=Bo.half_pos m
   by_cases hl:x<Bo.root a m
   ·obtain⟨a',m',p',b',h7,h8,h9,h10,h11⟩:=ih a _ x (Bo.root a m) (Bo.root (a+Bo.half m) (m-Bo.half m)) (by omega) (Bo.in_left h3 hl h4)
    exact⟨a',m',p',b',by rw[Bo.down,if_neg hr,zG hl,h7],h8,h9,by omega,h11⟩
   ·obtain⟨a',m',p',b',h7,h8,h9,h10,h11⟩:=ih (a+Bo.half m) (m-Bo.half m) x (Bo.root a m) (Bo.root a (Bo.half m)) (by omega) (Bo.in_right h3 (by omega) h4)
    exact⟨a',m',p',b',by rw[Bo.down,if_neg hr,if_neg hl,h7],h8,by omega,by omega,h11⟩
def Bo.there (n x:Int):Bool:=decide (1<=n)&&decide (n<=64)&&decide (0<=x)&&decide (x<=2*n-2)
def Bo.leaf (n x:Int):Bool:=decide (1<=n)&&decide (n<=64)&&decide (0<=x)&&decide (x<n)
def Bo.part (n x:Nat):Nat × Nat × Int × Int:=Bo.down 64 0 n x (-1) (-1)
def Bo.Root (n:Int):Int:=if Bo.there n 0 then Bo.root 0 n.toNat else -1
def Bo.left (n x:Nat):Int:=if(Bo.part n x).2.1=1 then -1 else Bo.root (Bo.part n x).1 (Bo.half (Bo.part n x).2.1)
def Bo.right (n x:Nat):Int:=if(Bo.part n x).2.1=1 then -1 else Bo.root ((Bo.part n x).1+Bo.half (Bo.part n x).2.1) ((Bo.part n x).2.1-Bo.half (Bo.part n x).2.1)
def Bo.Left (n x:Int):Int:=if Bo.there n x then Bo.left n.toNat x.toNat else -1
def Bo.Right (n x:Int):Int:=if Bo.there n x then Bo.right n.toNat x.toNat else -1
def Bo.Above (n x:Int):Int:=if Bo.there n x then(Bo.part n.toNat x.toNat).2.2.1 else -1
def Bo.Beside (n x:Int):Int:=if Bo.there n x then(Bo.part n.toNat x.toNat).2.2.2 else -1
def Bo.First (n x:Int):Int:=if Bo.there n x then(Bo.part n.toNat x.toNat).1 else 0
def Bo.Behind (n x:Int):Int:=if Bo.there n x then((Bo.part n.toNat x.toNat).1+(Bo.part n.toNat x.toNat).2.1:Nat) else 0
def Bo.Holds (n x leaf:Int):Bool:=decide (Bo.First n x<=leaf)&&decide (leaf<Bo.Behind n x)
def Bo.rises (n x:Nat):Bool:=
 let D:=Bo.part n x
 decide (D.2.1<=64)&&(decide (D.2.2.1<0) || (decide (D.2.2.1.toNat<=2*n-2)&&decide (D.2.1<(Bo.part n D.2.2.1.toNat).2.1)&&decide ((Bo.part n D.2.2.1.toNat).2.1<=64)))
def Bo.far (n p:Int):Nat:=if p<0 then 0 else if Bo.there n p then 66-(Bo.part n.toNat p.toNat).2.1 else 1
def Bo.upsFrom:Nat->Int->Int->List Int
 | 0,_,_=>[]
 | k+1,n,p=>if p<0 then [] else p::Bo.upsFrom k n (Bo.Above n p)
def Bo.chain (n p:Int):List Int:=Bo.upsFrom 66 n p
def Bo.ups (n x:Int):List Int:=Bo.chain n (Bo.Above n x)
open Go.RowKit Go.Lib
open List renaming setIfInBounds_toArray -> sA, set_cons_zero -> sB, set_cons_succ -> sC
open BigFrame renaming wpList_want -> wQ
theorem Bo.len:∀ m:Fin 65,2<=m.val->Lib.bitLen (m.val-1)=Nat.log2 (m.val-1)+1:=by decide +kernel
def LenIs:Prop:=∀ (x:Int) (w:World),0<=x->x<=18446744073709551615->Calls Tryz.prog 196 #[.int .u64 x] w λe w'=>e=.returned (.int .i64 (Lib.bitLen x.toNat))/\w'=w
theorem Kept.ofDrew {w w2:World}(k:Kept w.drew.heap.size w.drew.heap.size w.drew w2):Kept w.heap.size w.heap.size w w2:=⟨k.os,k.tape,k.output,k.size,k.block⟩
def sideV (a m:Nat):Value:=.agg #[.int .i64 (a:Int),.int .i64 (m:Int)]
theorem Qhg (HL:LenIs)(a m:Nat)(h2:2<=m)(h64:m<=64)(w:World):Calls Tryz.prog 191 #[.agg #[.int .i64 (a:Int),.int .i64 (m:Int)]] w λe w'=>e=.returned (.int .i64 (Bo.half m:Int))/\Kept w.heap.size w.heap.size w w':=by
 have hlen:=Bo.len ⟨m,by omega⟩ h2
 have hlog:Nat.log2 (m-1)<=6:=by
  rcases Nat.lt_or_ge 6 (Nat.log2 (m-1)) with h|h
  ·have h3:=Nat.log2_self_le (n:=m-1) (by omega)
   have:=Nat.pow_le_pow_right (n:=2) (by omega) h
   omega
  ·exact h
 obtain⟨j,hj⟩:∃j,j=Nat.log2 (m-1):=⟨_,rfl⟩;have hh:Bo.half m=2 ^ j:=by rw[hj];rfl
 dsimp only at hlen
 rw[<-hj] at hlen hlog;have hle:(2 ^ j:Nat)<=2 ^ 6:=Nat.pow_le_pow_right (by decide) hlog
 have hcall:Calls Tryz.prog 196 #[.int .u64 ((m:Int)-1)] (w.alloc (.cells #[.int .i64 (a:Int),.int .i64 (m:Int)] 244)) λe w'=>e=.returned (.int .i64 ((j:Int)+1))/\w'=w.alloc (.cells #[.int .i64 (a:Int),.int .i64 (m:Int)] 244):=by
  refine(HL _ _ (by omega) (by omega)).mono ?_
  rintro e w' ⟨rfl,rfl⟩;refine⟨?_,rfl⟩;have e:((m:Int)-1).toNat=m-1:=by omega
  rw[e,hlen]
  rfl
 rw[hh]
 have hsh:wrap64 ((2:Int) ^ j)=((2 ^ j:Nat):Int):=by
  have e:((2:Int) ^ j)=((2 ^ j:Nat):Int):=by simp
  rw[e];unfold wrap64
  omega
 have HSH:=hid hsh;have HCALL:=hid hcall;have hj1:(j:Int)<=6:=by omega
 clear hh hle hsh hcall hlen hlog hj;have hsz:Kept w.heap.size w.heap.size w (w.alloc (.cells #[.int .i64 (a:Int),.int .i64 (m:Int)] 244)):=zI.alloc (zB _) _
 have HK:=hid hsz;clear hsz
 go_enter Tryz.func191,Tryz.ntmps191
 go_wp2_with (go_at_call 196;refine HCALL.out.mono ?_;rintro e w2 ⟨rfl,rfl⟩)
 go_ret;refine⟨?_,HK.out⟩;show Ending.returned (.int .i64 (wrap64 (2 ^ j)))=_;rw[HSH.out]
theorem Qg3 (HL:LenIs)(a m:Nat)(h1:1<=m)(h64:a+m<=64)(w:World):Calls Tryz.prog 182 #[.agg #[.int .i64 (a:Int),.int .i64 (m:Int)]] w λe w'=>e=.returned (.int .i64 (Bo.root a m:Int))/\Kept w.heap.size w.heap.size w w':=by
 have hk0:Kept w.heap.size w.heap.size w (w.alloc (.cells #[.int .i64 (a:Int),.int .i64 (m:Int)] 244)):=zI.alloc (zB _) _
 have HK:=hid hk0;clear hk0;have hm64:(m:Int)<=64:=by omega
 have ha64:(a:Int)<=64:=by omega
 rcases Nat.lt_or_ge m 2 with h2|h2
 ·obtain rfl:m=1:=by omega
  rw[Bo.root_one]
  go_enter Tryz.func182,Tryz.ntmps182
  go_wp2;go_ret;exact⟨by simp,HK.out⟩
 ·have hh:=Bo.half_lt h2
  have hp:=Bo.half_pos m;have hcall:=λw=>Qhg HL a m h2 (by omega) w
  rw[Bo.root_two h2];generalize Bo.half m=h at hh hp hcall |-;have hne:((m:Int) == 1)=false:=by simp;omega
  have hwa:(a:Int)+(h:Int)<=64:=by omega
  have hwb:0<(a:Int)+(h:Int):=by omega
  have HC:=hid hcall;have HE:=hid (show IntKind.i64.wrap (IntKind.i64.wrap (2*IntKind.i64.wrap ((a:Int)+(h:Int)))-1)=((2*(a+h)-1:Nat):Int) by simp only[IntKind.wrap_i64];omega)
  clear hcall hh hp
  go_enter Tryz.func182,Tryz.ntmps182
  go_wp2;have hP:(w.alloc (.cells #[.int .i64 (a:Int),.int .i64 (m:Int)] 244)).heap[w.heap.size]?=some (.cells #[.int .i64 (a:Int),.int .i64 (m:Int)] 244 (0,0)):=Qaa _ _
  have hS:w.heap.size<(w.alloc (.cells #[.int .i64 (a:Int),.int .i64 (m:Int)] 244)).heap.size:=by simp
  generalize w.alloc (.cells #[.int .i64 (a:Int),.int .i64 (m:Int)] 244)=w1 at HK hP hS |-
  obtain⟨wa,hwa'⟩:∃wa,wa=w.heap.size:=⟨_,rfl⟩;rw[<-hwa'] at hP HK hS |-;have HWA:=hid hwa';clear hwa';have HP:=hid hP;have c0:=Qac hP;have c1:=Qab hP;have HF:Hid (∀w',Kept w1.heap.size w1.heap.size w1 w'->w'.cell? ⟨wa,0,none⟩=some (.int .i64 (a:Int))):=hid (λw' k=>Qac ((k.block wa hS (zD hS)).trans HP.out))
  have HKK:Hid (∀w',Kept w1.heap.size w1.heap.size w1 w'->Kept wa wa w w'):=hid (λw' k=>HK.out.trans (k.mono (Nat.le_of_lt hS) (λi hi _=>by omega)))
  clear hP
  go_region_with (go_at_call 191;refine(HC.out _).mono ?_;rintro e w2 ⟨rfl,k2⟩;have K2:=HKK.out _ (Kept.ofDrew k2);have c2:=HF.out _ (Kept.ofDrew k2))
  all_goals
   go_wp2_with fail
   go_ret;refine⟨?_,by rw[<-HWA.out];exact K2⟩
   exact congrArg (λx=>Ending.returned (Value.int .i64 x)) HE.out
theorem sideInfo:(Tryz.prog.info? 244).map (·.size)=some 2:=by kernel_rfl
theorem Qcy {fn:Func}{p:Tmp}(h:fn.results = #[.cell p 244])(tmps:Array Value)(w:World)(g:Nat)(x y:Value)(hp:tmps.getD p undef=.pointer (some ⟨g,0,none⟩))(hg:w.heap[g]?=some (.cells #[x,y] 244 (0,0))):(results fn tmps).run Tryz.prog w=.ok (.agg #[x,y]) w:=
 results_cell_row h tmps w g _ _ _ _ hp hg Tryz.underlying244 rfl (by rw[sideInfo];rfl)
theorem Qf0 {fn:Func}{p q:Tmp}(h:fn.results = #[.cell p 244,.tmp q])(tmps:Array Value)(w:World)(g:Nat)(x y v:Value)(hp:tmps.getD p undef=.pointer (some ⟨g,0,none⟩))(hv:tmps.getD q undef=v)(hg:w.heap[g]?=some (.cells #[x,y] 244 (0,0))):(results fn tmps).run Tryz.prog w=.ok (.tuple #[.agg #[x,y],v]) w:=by
 rw[results_cell_tmp h,hp,hv];simp[asAddr,run_loadVar_row w g _ _ _ _ _ hg Tryz.underlying244 rfl (by rw[sideInfo];rfl)]
theorem Qli (w:World)(x y:Value)(t:TypeId):Kept w.heap.size w.heap.size w ((w.alloc (.cells #[x,y] t)).alloc (.cells #[.int .i64 0,.int .i64 0] t))/\((w.alloc (.cells #[x,y] t)).alloc (.cells #[.int .i64 0,.int .i64 0] t)).heap[w.heap.size]?=some (.cells #[x,y] t (0,0))/\((w.alloc (.cells #[x,y] t)).alloc (.cells #[.int .i64 0,.int .i64 0] t)).heap[w.heap.size+1]?=some (.cells #[.int .i64 0,.int .i64 0] t (0,0)):=by
 refine⟨(zI.alloc (zB _) _).alloc (by simp) _,(Below.heap_alloc _ _ _ (by simp)).trans (Qaa _ _),?_⟩
 have:=Qaa (w.alloc (.cells #[x,y] t)) (.cells #[.int .i64 0,.int .i64 0] t);rw[World.size_alloc] at this;exact this
theorem Qg2 {w w2:World}{b:Nat}{t:TypeId}(h:Kept w.heap.size w.heap.size w w2)(hb:w.heap.size<=b)(hr:w2.heap[b]?=some (.cells #[.int .i64 0,.int .i64 0] t (0,0)))(x y:Value):Kept w.heap.size w.heap.size w ((w2.setCell ⟨b,0,none⟩ x).setCell ⟨b,1,none⟩ y)/\((w2.setCell ⟨b,0,none⟩ x).setCell ⟨b,1,none⟩ y).heap[b]?=some (.cells #[x,y] t (0,0)):=
 ⟨(h.setCell (p:=⟨b,0,none⟩) (.inr hb) _).setCell (p:=⟨b,1,none⟩) (.inr hb) _,Qds (Qbc hr)⟩
theorem Qoo (HL:LenIs)(a m:Nat)(h2:2<=m)(h64:a+m<=64)(w:World):Calls Tryz.prog 193 #[.agg #[.int .i64 (a:Int),.int .i64 (m:Int)]] w λe w'=>e=.returned (.agg #[.int .i64 ((a+Bo.half m:Nat):Int),.int .i64 ((m-Bo.half m:Nat):Int)])/\Kept w.heap.size w.heap.size w w':=by
 have hh:=Bo.half_lt h2;have hp:=Bo.half_pos m;have hcall:=λw=>Qhg HL a m h2 (by omega) w
 generalize Bo.half m=h at hh hp hcall |-;have e1:((m-h:Nat):Int)=(m:Int)-(h:Int):=by omega
 have e2:((a+h:Nat):Int)=(a:Int)+(h:Int):=by omega
 rw[e1,e2];have hwa:(a:Int)+(h:Int)<=64:=by omega
 have hwb:0<=(m:Int)-(h:Int):=by omega
 have hm64:(m:Int)<=64:=by omega
 have HC:=hid hcall;clear hcall hh hp e1 e2;obtain⟨hk0,hP,hQ⟩:=Qli w (.int .i64 (a:Int)) (.int .i64 (m:Int)) 244
 have HK:=hid hk0;clear hk0
 go_enter Tryz.func193,Tryz.ntmps193
 go_wp2_with (go_at_call 191;refine(HC.out _).mono ?_;rintro e w2 ⟨rfl,k2⟩;have hP2:=rk hP k2;have hQ2:=rk hQ k2;have c0:=Qac hP2;have c1:=Qab hP2;have d0:=Qac hQ2;have d1:=Qab hQ2;have f0:=Qay hQ2)
 have K2:Kept w.heap.size w.heap.size w w2:=HK.out.trans (k2.mono (by simp;omega) (λi hi _=>by simp;omega))
 obtain⟨t1,t2⟩:=Qg2 K2 (Nat.le_succ _) hQ2 (.int .i64 ((a:Int)+(h:Int))) (.int .i64 ((m:Int)-(h:Int)));refine bodyPost_ret (Qcy rfl _ _ (w.heap.size+1) _ _ rfl t2) rfl ?_;exact⟨rfl,t1⟩
theorem Qsk (HL:LenIs)(a m:Nat)(h2:2<=m)(h64:a+m<=64)(w:World):Calls Tryz.prog 192 #[.agg #[.int .i64 (a:Int),.int .i64 (m:Int)]] w λe w'=>e=.returned (.agg #[.int .i64 (a:Int),.int .i64 (Bo.half m:Int)])/\Kept w.heap.size w.heap.size w w':=by
 have hcall:=λw=>Qhg HL a m h2 (by omega) w
 generalize Bo.half m=h at hcall |-;have HC:=hid hcall;clear hcall;obtain⟨hk0,hP,hQ⟩:=Qli w (.int .i64 (a:Int)) (.int .i64 (m:Int)) 244
 have HK:=hid hk0;clear hk0
 go_enter Tryz.func192,Tryz.ntmps192
 go_upto_region 1 with fail
 generalize (w.alloc (.cells #[.int .i64 (a:Int),.int .i64 (m:Int)] 244)).alloc (.cells #[.int .i64 0,.int .i64 0] 244)=w1 at HK hP hQ |-
 have hS1:=zF hQ;obtain⟨wa,hwa'⟩:∃wa,wa=w.heap.size:=⟨_,rfl⟩;have HWA:=hid hwa';rw[<-hwa'] at hP hQ HK hS1 |-;have hS0:=zF hP;clear hwa';have c0:=Qac hP;have c1:=Qab hP;have HF:Hid (∀w',Kept w1.heap.size w1.heap.size w1 w'->w'.heap[wa]?=some (.cells #[.int .i64 (a:Int),.int .i64 (m:Int)] 244 (0,0))/\w'.heap[wa+1]?=some (.cells #[.int .i64 0,.int .i64 0] 244 (0,0))):=hid (λw' k=>⟨(k.block wa hS0 (zD hS0)).trans hP,(k.block (wa+1) hS1 (zD hS1)).trans hQ⟩)
 have HKK:Hid (∀w',Kept w1.heap.size w1.heap.size w1 w'->Kept wa wa w w'):=hid (λw' k=>HK.out.trans (k.mono (Nat.le_of_lt hS0) (λi hi _=>by omega)))
 clear hP hQ
 go_region_with (go_at_call 191;refine(HC.out _).mono ?_;rintro e w2 ⟨rfl,k2⟩;have K2:=HKK.out _ (Kept.ofDrew k2);have hP2:=(HF.out _ (Kept.ofDrew k2)).1;have hQ2:=(HF.out _ (Kept.ofDrew k2)).2;have c2:=Qac hP2;have d0:=Qac hQ2;have d1:=Qab hQ2;have f0:=Qay hQ2)
 all_goals
  go_wp2_with fail
  rw[HWA.out] at hQ2 K2;obtain⟨t1,t2⟩:=Qg2 K2 (Nat.le_succ _) hQ2 (.int .i64 (a:Int)) (.int .i64 (h:Int));rw[<-HWA.out] at t1 t2;refine bodyPost_ret (Qcy rfl _ _ (wa+1) _ _ rfl t2) rfl ?_;exact⟨rfl,by rw[<-HWA.out];exact t1⟩
theorem Qoc (n:Int)(w:World):Calls Tryz.prog 181 #[.int .i64 n] w λe w'=>e=.returned (.agg #[.int .i64 0,.int .i64 n])/\Kept w.heap.size w.heap.size w w':=by
 have hk0:Kept w.heap.size w.heap.size w (w.alloc (.cells #[.int .i64 0,.int .i64 n] 244)):=zI.alloc (zB _) _
 have HK:=hid hk0;have hP:=Qaa w (.cells #[.int .i64 0,.int .i64 n] 244)
 clear hk0
 go_enter Tryz.func181,Tryz.ntmps181
 go_wp2;refine bodyPost_ret (Qcy rfl _ _ w.heap.size _ _ rfl hP) rfl ?_;exact⟨rfl,HK.out⟩
theorem Qof (HL:LenIs)(a m x:Nat)(h2:2<=m)(h64:a+m<=64)(hx:x<Bo.root a m)(w:World):Calls Tryz.prog 183 #[.agg #[.int .i64 (a:Int),.int .i64 (m:Int)],.int .i64 (x:Int)] w λe w'=>e=.returned (.agg #[.int .i64 (a:Int),.int .i64 (Bo.half m:Int)])/\Kept w.heap.size w.heap.size w w':=by
 have hroot:=λw=>Qg3 HL a m (by omega) h64 w
 have hleft:=λw=>Qsk HL a m h2 h64 w
 have hlt:((x:Int)<(Bo.root a m:Int)):=by omega
 generalize Bo.half m=h at hleft |-;generalize Bo.root a m=r at hroot hlt;have HR:=hid hroot;have HC:=hid hleft;clear hroot hleft hx;obtain⟨hk0,hP,hQ⟩:=Qli w (.int .i64 (a:Int)) (.int .i64 (m:Int)) 244
 have HK:=hid hk0;clear hk0
 go_enter Tryz.func183,Tryz.ntmps183
 go_wp2_with (first
  | (go_at_call 182;refine(HR.out _).mono ?_;rintro e w2 ⟨rfl,k2⟩;have hP2:=rk hP k2;have hQ2:=rk hQ k2;have K2:Kept w.heap.size w.heap.size w w2:=HK.out.trans (k2.mono (by simp;omega) (λi hi _=>by simp;omega));have c0:=Qac hP2;have c1:=Qab hP2)
  | (go_at_call 192;refine(HC.out _).mono ?_;rintro e w3 ⟨rfl,k3⟩;have hQ3:=rk hQ2 k3;have K3:=K2.trans (k3.mono K2.size (λi hi _=>zD (zC hi K2.size)));have d0:=Qac hQ3;have d1:=Qab hQ3;have f0:=Qay hQ3))
 obtain⟨t1,t2⟩:=Qg2 K3 (Nat.le_succ _) hQ3 (.int .i64 (a:Int)) (.int .i64 (h:Int));refine bodyPost_ret (Qcy rfl _ _ (w.heap.size+1) _ _ rfl t2) rfl ?_;exact⟨rfl,t1⟩
theorem Qmo (HL:LenIs)(a m x:Nat)(h2:2<=m)(h64:a+m<=64)(hx:¬x<Bo.root a m)(w:World):Calls Tryz.prog 183 #[.agg #[.int .i64 (a:Int),.int .i64 (m:Int)],.int .i64 (x:Int)] w λe w'=>e=.returned (.agg #[.int .i64 ((a+Bo.half m:Nat):Int),.int .i64 ((m-Bo.half m:Nat):Int)])/\Kept w.heap.size w.heap.size w w':=by
 have hroot:=λw=>Qg3 HL a m (by omega) h64 w
 have hright:=λw=>Qoo HL a m h2 h64 w
 have hlt:¬((x:Int)<(Bo.root a m:Int)):=by omega
 generalize ((a+Bo.half m:Nat):Int)=y at hright |-;generalize ((m-Bo.half m:Nat):Int)=z at hright |-;generalize Bo.root a m=r at hroot hlt;have HR:=hid hroot;have HC:=hid hright;clear hroot hright hx;obtain⟨hk0,hP,hQ⟩:=Qli w (.int .i64 (a:Int)) (.int .i64 (m:Int)) 244
 have HK:=hid hk0;clear hk0
 go_enter Tryz.func183,Tryz.ntmps183
 go_wp2_with (first
  | (go_at_call 182;refine(HR.out _).mono ?_;rintro e w2 ⟨rfl,k2⟩;have hP2:=rk hP k2;have hQ2:=rk hQ k2;have K2:Kept w.heap.size w.heap.size w w2:=HK.out.trans (k2.mono (by simp;omega) (λi hi _=>by simp;omega));have c0:=Qac hP2;have c1:=Qab hP2)
  | (go_at_call 193;refine(HC.out _).mono ?_;rintro e w3 ⟨rfl,k3⟩;have hQ3:=rk hQ2 k3;have K3:=K2.trans (k3.mono K2.size (λi hi _=>zD (zC hi K2.size)));have d0:=Qac hQ3;have d1:=Qab hQ3;have f0:=Qay hQ3))
 obtain⟨t1,t2⟩:=Qg2 K3 (Nat.le_succ _) hQ3 (.int .i64 y) (.int .i64 z);refine bodyPost_ret (Qcy rfl _ _ (w.heap.size+1) _ _ rfl t2) rfl ?_;exact⟨rfl,t1⟩
theorem Qni (n:Int)(w:World):Calls Tryz.prog 190 #[.int .i64 n] w λe w'=>e=.returned (.bool (decide (1<=n)&&decide (n<=64)))/\w'=w:=by
 by_cases h1:1<=n
 ·go_enter Tryz.func190,Tryz.ntmps190
  go_wp2;go_ret;exact⟨by simp[h1],rfl⟩
 ·have h2:¬n>=1:=h1
  go_enter Tryz.func190,Tryz.ntmps190
  go_wp2;go_ret;exact⟨by simp;omega,rfl⟩
theorem Qh2 (n x:Int)(w:World):Calls Tryz.prog 180 #[.int .i64 n,.int .i64 x] w λe w'=>e=.returned (.bool (Bo.there n x))/\w'=w:=by
 have hcall:=λw=>Qni n w
 by_cases h1:1<=n/\n<=64
 ·obtain⟨h1,h3⟩:=h1
  simp only[h1,h3,decide_true,Bool.and_self] at hcall;have HC:=hid hcall;clear hcall
  by_cases h4:0<=x
  ·go_enter Tryz.func180,Tryz.ntmps180
   go_wp2_with (go_at_call 190;refine(HC.out _).mono ?_;rintro e w2 ⟨rfl,rfl⟩)
   go_ret;exact⟨by simp[Bo.there,h1,h3,h4],rfl⟩
  ·have h5:¬x>=0:=h4
   go_enter Tryz.func180,Tryz.ntmps180
   go_wp2_with (go_at_call 190;refine(HC.out _).mono ?_;rintro e w2 ⟨rfl,rfl⟩)
   go_ret;exact⟨by simp[Bo.there];omega,rfl⟩
 ·have hb:(decide (1<=n)&&decide (n<=64))=false:=by
   rw[<-Bool.not_eq_true,Bool.and_eq_true,decide_eq_true_iff,decide_eq_true_iff];exact h1
  rw[hb] at hcall;have HC:=hid hcall;have HB:=hid hb;clear hcall hb
  go_enter Tryz.func180,Tryz.ntmps180
  go_wp2_with (go_at_call 190;refine(HC.out _).mono ?_;rintro e w2 ⟨rfl,rfl⟩)
  go_ret;exact⟨by simp[Bo.there,HB.out],rfl⟩
def leavesAt (v:Value)(w:World):Nat:=match v with
 | .pointer (some a)=>match w.cell? ⟨a.block,1,none⟩ with
  | some (.int _ z)=>z.toNat
  | _=>0
 | _=>0
theorem Qem {w:World}{b:Nat}{x:Value}{m:Nat}{t:TypeId}(h:w.heap[b]?=some (.cells #[x,.int .i64 (m:Int)] t (0,0))):leavesAt (.pointer (some ⟨b,0,none⟩)) w=m:=by
 simp[leavesAt,Qab h]
theorem Bo.there_of {n x:Nat}(h:Bo.In 0 n x)(h64:n<=64):Bo.there (n:Int) (x:Int)=true:=by
 obtain⟨h1,_,h3⟩:=h;simp[Bo.there]
 omega
def OnWay (n x:Nat)(a m:Nat)(above:Int):Prop:=∃(b:Int) (k:Nat),m<=k/\Bo.In a m x/\a+m<=64/\Bo.down k a m x above b=Bo.part n x
theorem OnWay.start {n x:Nat}(h:Bo.In 0 n x)(h64:n<=64):OnWay n x 0 n (-1):=⟨-1,64,h64,h,by omega,rfl⟩
theorem OnWay.done {n x a m:Nat}{p:Int}(h:OnWay n x a m p)(hr:Bo.root a m=x):(Bo.part n x).1=a/\(Bo.part n x).2.1=m/\(Bo.part n x).2.2.1=p:=by
 obtain⟨b,k,h1,h2,_,h4⟩:=h;rw[Bo.down_root (Nat.le_trans h2.1 h1) hr] at h4;rw[<-h4];exact⟨rfl,rfl,rfl⟩
theorem OnWay.left {n x a m:Nat}{p:Int}(h:OnWay n x a m p)(hr:x<Bo.root a m):2<=m/\a+m<=64/\Bo.half m<m/\OnWay n x a (Bo.half m) (Bo.root a m):=by
 obtain⟨b,k,h1,h2,h3,h4⟩:=h;have h5:=Bo.two_of h2 (by omega)
 have h6:=Bo.half_lt h5;rw[Bo.down_left (Nat.le_trans h2.1 h1) hr] at h4;exact⟨h5,h3,h6,_,k-1,by omega,Bo.in_left h2 hr h5,by omega,h4⟩
theorem OnWay.right {n x a m:Nat}{p:Int}(h:OnWay n x a m p)(hr:Bo.root a m<x):2<=m/\a+m<=64/\m-Bo.half m<m/\OnWay n x (a+Bo.half m) (m-Bo.half m) (Bo.root a m):=by
 obtain⟨b,k,h1,h2,h3,h4⟩:=h;have h5:=Bo.two_of h2 (by omega)
 have h6:=Bo.half_lt h5;have h7:=Bo.half_pos m;rw[Bo.down_right (Nat.le_trans h2.1 h1) hr] at h4;exact⟨h5,h3,by omega,_,k-1,by omega,Bo.in_right h2 hr h5,by omega,h4⟩
theorem OnWay.root {n x a m:Nat}{p:Int}(h:OnWay n x a m p):1<=m/\a+m<=64:=⟨h.choose_spec.choose_spec.2.1.1,h.choose_spec.choose_spec.2.2.1⟩
theorem Qs1 (HL:LenIs)(n x:Nat)(h:Bo.In 0 n x)(h64:n<=64)(w:World):Calls Tryz.prog 170 #[.int .i64 (n:Int),.int .i64 (x:Int)] w λe w'=>e=.returned (.tuple #[.agg #[.int .i64 ((Bo.part n x).1:Int),.int .i64 ((Bo.part n x).2.1:Int)],.bool true])/\Kept w.heap.size w.heap.size w w':=by
 have hn:=λw=>Qh2 (n:Int) (x:Int) w
 rw[Bo.there_of h h64] at hn;have hW:=λw=>Qoc (n:Int) w
 have HN:=hid hn;have HW:=hid hW;have H0:=hid (OnWay.start h h64);have hk0:Kept w.heap.size w.heap.size w (w.alloc (.cells #[.int .i64 0,.int .i64 0] 244)):=zI.alloc (zB _) _
 have hP:=Qaa w (.cells #[.int .i64 0,.int .i64 0] 244)
 have HK:=hid hk0;have HP:=hid hP;have HL':=hid HL;clear hn hW hk0 hP h HL
 go_enter Tryz.func170,Tryz.ntmps170
 go_wp2_with (first
  | (go_at_call 180;refine(HN.out _).mono ?_;rintro e w2 ⟨rfl,rfl⟩)
  | (go_at_call 181;refine(HW.out _).mono ?_;rintro e w2 ⟨rfl,k2⟩;have K2:=hid k2))
 have hS:w.heap.size<w2.heap.size:=by have:=k2.size;simp at this;omega
 have hk3:Kept w.heap.size w.heap.size w (w2.alloc (.cells #[.int .i64 0,.int .i64 (n:Int)] 244)):=(HK.out.trans (K2.out.mono (by simp) (λi hi _=>by simp;omega))).alloc (Nat.le_of_lt hS) _
 have hr3:(w2.alloc (.cells #[.int .i64 0,.int .i64 (n:Int)] 244)).heap[w.heap.size]?=some (.cells #[.int .i64 0,.int .i64 0] 244 (0,0)):=
  (Below.heap_alloc _ _ _ hS).trans ((K2.out.block _ (by simp) (by simp)).trans HP.out)
 have hn3:=Qaa w2 (.cells #[.int .i64 0,.int .i64 (n:Int)] 244)
 generalize w2.alloc (.cells #[.int .i64 0,.int .i64 (n:Int)] 244)=w3 at hk3 hr3 hn3 |-
 generalize w2.heap.size=B0 at hS hn3 |-;have HK3:=hid hk3;have HR3:=hid hr3;have HN3:=hid hn3;clear hk3 hr3 hn3 k2 K2 HP HK HW HN
 go_loopw [15] (λ_ wr=>∃(a m:Nat) (p:Int),Hid (OnWay n x a m p)/\Hid (wr.heap[B0]?=some (.cells #[.int .i64 (a:Int),.int .i64 (m:Int)] 244 (0,0)))/\Hid (wr.heap[w.heap.size]?=some (.cells #[.int .i64 0,.int .i64 0] 244 (0,0)))/\Hid (Kept w.heap.size w.heap.size w wr)) (λ_ wr=>leavesAt (.pointer (some ⟨B0,0,none⟩)) wr)
 case atStart=>exact⟨0,n,-1,H0,HN3,HR3,HK3⟩
 case round=>
  obtain⟨a,m,p,hway,hrow,hres,hk⟩:=hrel;obtain⟨hm1,ham⟩:=hway.out.root;have c0:=Qac hrow.out;have c1:=Qab hrow.out;have hroot:=λw=>Qg3 HL'.out a m hm1 ham w
  rcases Nat.lt_trichotomy (Bo.root a m) x with hr|hr|hr
  ·obtain⟨h2,_,hmm,hnext⟩:=hway.out.right hr
   have htow:=λw=>Qmo HL'.out a m x h2 ham (by omega) w
   have hne:((Bo.root a m:Int) != (x:Int))=true:=by simp;omega
   have hy:∃y:Int,y=((a+Bo.half m:Nat):Int):=⟨_,rfl⟩;have hz:∃z:Int,z=((m-Bo.half m:Nat):Int):=⟨_,rfl⟩;obtain⟨y,hy⟩:=hy;obtain⟨z,hz⟩:=hz;rw[<-hy,<-hz] at htow;have HY:=hid hy;have HZ:=hid hz;have HM:=hid hmm;have HX:=hid hnext;generalize hrr:Bo.root a m=r at hroot hne;have HR:=hid hroot;have HT:=hid htow;clear hroot htow hmm hnext hr hm1 ham h2 hrr hy hz
   go_wp2_with (first
    | (go_at_call 182;refine(HR.out _).mono ?_;rintro e w4 ⟨rfl,k4⟩;have hrow4:=(k4.block _ (zF hrow.out) (zD (zF hrow.out))).trans hrow.out;have hres4:=(k4.block _ (zF hres.out) (zD (zF hres.out))).trans hres.out;have e0:=Qac hrow4;have e1:=Qab hrow4;clear HR)
    | (go_at_call 183;refine(HT.out _).mono ?_;rintro e w5 ⟨rfl,k5⟩;have hrow5:=rk hrow4 k5;have hres5:=rk hres4 k5;have g0:=Qac hrow5;have g1:=Qab hrow5;have gf:=Qay hrow5;clear HT))
   go_roundw
   case rel=>
    refine⟨a+Bo.half m,m-Bo.half m,Bo.root a m,HX,?_,?_,?_⟩
    ·rw[<-HY.out,<-HZ.out]
     exact hid (Qds (Qbc hrow5))
    ·exact hid ((Below.heap_setCell _ _ _ _ (zD hS)).trans ((Below.heap_setCell _ _ _ _ (zD hS)).trans hres5))
    ·exact hid (((hk.out.trans (k4.mono hk.out.size (λi hi _=>zD (zC hi hk.out.size)))).trans (k5.mono (Nat.le_trans hk.out.size k4.size) (λi hi _=>zD (zC hi (Nat.le_trans hk.out.size k4.size))))).setCell (p:=⟨B0,0,none⟩) (.inr (Nat.le_of_lt hS)) _ |>.setCell (p:=⟨B0,1,none⟩) (.inr (Nat.le_of_lt hS)) _)
   case measure=>
    rw[HZ.out,Qem (Qds (Qbc hrow5)),Qem hrow.out];exact HM.out
  ·have hroot':∀w,Calls Tryz.prog 182 #[.agg #[.int .i64 (a:Int),.int .i64 (m:Int)]] w λe w'=>e=.returned (.int .i64 (x:Int))/\Kept w.heap.size w.heap.size w w':=λw=>by rw[<-hr];exact hroot w
   have hdone:=hway.out.done hr;have hne:((x:Int) != (x:Int))=false:=by simp
   have HR:=hid hroot';have HD:=hid hdone;clear hroot hroot' hdone hr hm1 ham
   go_wp2_with (go_at_call 182;refine(HR.out _).mono ?_;rintro e w4 ⟨rfl,k4⟩;have hrow4:=(k4.block _ (zF hrow.out) (zD (zF hrow.out))).trans hrow.out;have hres4:=(k4.block _ (zF hres.out) (zD (zF hres.out))).trans hres.out;have e0:=Qac hrow4;have e1:=Qab hrow4;have g0:=Qac hres4;have g1:=Qab hres4;have gf:=Qay hres4;clear HR)
   have K4:=hk.out.trans (k4.mono hk.out.size (λi hi _=>zD (zC hi hk.out.size)))
   obtain⟨t1,t2⟩:=Qg2 K4 (zB _) hres4 (.int .i64 (a:Int)) (.int .i64 (m:Int));refine bodyPost_ret (Qf0 rfl _ _ w.heap.size _ _ _ rfl rfl t2) rfl ?_;refine⟨?_,t1⟩;rw[HD.out.1,HD.out.2.1]
   rfl
  ·obtain⟨h2,_,hmm,hnext⟩:=hway.out.left hr
   have htow:=λw=>Qof HL'.out a m x h2 ham (by omega) w
   have hne:((Bo.root a m:Int) != (x:Int))=true:=by simp;omega
   have hy:∃y:Int,y=(a:Int):=⟨_,rfl⟩;have hz:∃z:Int,z=(Bo.half m:Int):=⟨_,rfl⟩;obtain⟨y,hy⟩:=hy;obtain⟨z,hz⟩:=hz;have htow:∀w,Calls Tryz.prog 183 #[.agg #[.int .i64 (a:Int),.int .i64 (m:Int)],.int .i64 (x:Int)] w λe w'=>e=.returned (.agg #[.int .i64 y,.int .i64 z])/\Kept w.heap.size w.heap.size w w':=λw=>by rw[hy,hz];exact htow w
   have HY:=hid hy;have HZ:=hid hz;have HM:=hid hmm;have HX:=hid hnext;generalize hrr:Bo.root a m=r at hroot hne;have HR:=hid hroot;have HT:=hid htow;clear hroot htow hmm hnext hr hm1 ham h2 hrr hy hz
   go_wp2_with (first
    | (go_at_call 182;refine(HR.out _).mono ?_;rintro e w4 ⟨rfl,k4⟩;have hrow4:=(k4.block _ (zF hrow.out) (zD (zF hrow.out))).trans hrow.out;have hres4:=(k4.block _ (zF hres.out) (zD (zF hres.out))).trans hres.out;have e0:=Qac hrow4;have e1:=Qab hrow4;clear HR)
    | (go_at_call 183;refine(HT.out _).mono ?_;rintro e w5 ⟨rfl,k5⟩;have hrow5:=rk hrow4 k5;have hres5:=rk hres4 k5;have g0:=Qac hrow5;have g1:=Qab hrow5;have gf:=Qay hrow5;clear HT))
   go_roundw
   case rel=>
    refine⟨a,Bo.half m,Bo.root a m,HX,?_,?_,?_⟩
    ·rw[<-HY.out,<-HZ.out]
     exact hid (Qds (Qbc hrow5))
    ·exact hid ((Below.heap_setCell _ _ _ _ (zD hS)).trans ((Below.heap_setCell _ _ _ _ (zD hS)).trans hres5))
    ·exact hid (((hk.out.trans (k4.mono hk.out.size (λi hi _=>zD (zC hi hk.out.size)))).trans (k5.mono (Nat.le_trans hk.out.size k4.size) (λi hi _=>zD (zC hi (Nat.le_trans hk.out.size k4.size))))).setCell (p:=⟨B0,0,none⟩) (.inr (Nat.le_of_lt hS)) _ |>.setCell (p:=⟨B0,1,none⟩) (.inr (Nat.le_of_lt hS)) _)
   case measure=>
    rw[HZ.out,Qem (Qds (Qbc hrow5)),Qem hrow.out];exact HM.out
theorem Bo.there_nat {n x:Int}(h:Bo.there n x=true):∃n' x':Nat,n=(n':Int)/\x=(x':Int)/\Bo.In 0 n' x'/\n'<=64:=by
 simp[Bo.there] at h;exact⟨n.toNat,x.toNat,by omega,by omega,⟨by omega,by omega,by omega⟩,by omega⟩
open Go.RowKit Go.Shelf Go.Lib
attribute [local go_sem] Oper.semAt_some
def KeepsBox (B:Nat)(v:Value)(W W':World):Prop:=Boxed W B 3 v->Boxed W' B 3 v
theorem Qsv {w w':World}(h:Kept w.heap.size w.heap.size w w'):w.grownBy w' none:=⟨h.os,h.tape,h.output,h.size,λk hk _=>h.block k hk (zD hk)⟩
end Go.Proofs.YtnlbgggnpoeleaaGreatDoor
namespace Go.Proofs.YtnlbgggnpoeleaaGreatDoor
open Go.RowKit Go.Lib
open List renaming setIfInBounds_toArray -> sA, set_cons_zero -> sB, set_cons_succ -> sC
open BigFrame renaming wpList_want -> wQ
theorem Bo.part_in {n x:Nat}(h:Bo.In 0 n x)(h64:n<=64):Bo.root (Bo.part n x).1 (Bo.part n x).2.1=x/\1<=(Bo.part n x).2.1/\(Bo.part n x).1+(Bo.part n x).2.1<=64:=by
 obtain⟨a,m,p,b,h1,h2,h3,h4,h5⟩:=Bo.down_end 64 0 n x (-1) (-1) h64 h;rw[Bo.part,h1];exact⟨h5,h2,by show a+m<=64;omega⟩
theorem Qxk (n x:Int)(h:Bo.there n x=false)(w:World):Calls Tryz.prog 170 #[.int .i64 n,.int .i64 x] w λe w'=>e=.returned (.tuple #[.agg #[.int .i64 0,.int .i64 0],.bool false])/\Kept w.heap.size w.heap.size w w':=by
 have hn:=λw=>Qh2 n x w
 rw[h] at hn;have HN:=hid hn;have hk0:Kept w.heap.size w.heap.size w (w.alloc (.cells #[.int .i64 0,.int .i64 0] 244)):=zI.alloc (zB _) _
 have hP:=Qaa w (.cells #[.int .i64 0,.int .i64 0] 244)
 have c0:=Qac hP;have c1:=Qab hP;have cf:=Qay hP;have HK:=hid hk0;clear hn h hk0
 go_enter Tryz.func170,Tryz.ntmps170
 go_wp2_with (go_at_call 180;refine(HN.out _).mono ?_;rintro e w1 ⟨rfl,hw1⟩;subst w1)
 first
  | (refine bodyPost_ret (Qf0 rfl _ _ w.heap.size _ _ _ rfl rfl hP) rfl ?_;exact⟨rfl,HK.out⟩)
  | (obtain⟨t1,t2⟩:=Qg2 HK.out (zB _) hP (.int .i64 0) (.int .i64 0)
     refine bodyPost_ret (Qf0 rfl _ _ w.heap.size _ _ _ rfl rfl t2) rfl ?_
     exact⟨rfl,t1⟩)
theorem Qng (HL:LenIs)(n x:Int)(w:World):Calls Tryz.prog 162 #[.int .i64 n,.int .i64 x] w λe w'=>e=.returned (.tuple #[.int .i64 (Bo.First n x),.int .i64 (Bo.Behind n x)])/\Kept w.heap.size w.heap.size w w':=by
 by_cases h:Bo.there n x=true
 ·have hE:Bo.First n x=(Bo.part n.toNat x.toNat).1:=by rw[Bo.First,zG h]
  have hB:Bo.Behind n x=((Bo.part n.toNat x.toNat).1+(Bo.part n.toNat x.toNat).2.1:Nat):=by rw[Bo.Behind,zG h]
  obtain⟨n,x,rfl,rfl,h1,h2⟩:=Bo.there_nat h;rw[Int.toNat_natCast,Int.toNat_natCast] at hE hB;rw[hE,hB];obtain⟨q1,q2,q3⟩:=Bo.part_in h1 h2;have hfind:=λw=>Qs1 HL n x h1 h2 w
  generalize (Bo.part n x).1=a at q1 q2 q3 hfind |-;generalize (Bo.part n x).2.1=m at q1 q2 q3 hfind |-;clear hE hB h h1 h2 q1;have HF:=hid hfind;have hsum:(a:Int)+(m:Int)<=64:=by omega
  clear hfind q2 q3
  go_enter Tryz.func162,Tryz.ntmps162
  go_wp2_with (go_at_call 170;refine(HF.out _).mono ?_;rintro e w2 ⟨rfl,k2⟩;have K2:=hid k2;have hrow:=Qaa w2 (.cells #[.int .i64 (a:Int),.int .i64 (m:Int)] 244);have c0:=Qac hrow;have c1:=Qab hrow)
  go_region
  all_goals
   go_wp2_with fail
   go_ret2
   refine⟨?_,(K2.out.alloc K2.out.size _).drew⟩;rw[Int.natCast_add]
   rfl
 ·have hE:Bo.First n x=0:=by rw[Bo.First,if_neg h]
  have hB:Bo.Behind n x=0:=by rw[Bo.Behind,if_neg h]
  have hfind:=λw=>Qxk n x (by simpa using h) w
  rw[hE,hB];have HF:=hid hfind;clear hfind hE hB h
  go_enter Tryz.func162,Tryz.ntmps162
  go_wp2_with (go_at_call 170;refine(HF.out _).mono ?_;rintro e w2 ⟨rfl,k2⟩;have K2:=hid k2)
  go_ret2
  exact⟨rfl,K2.out.alloc K2.out.size _⟩
end Go.Proofs.YtnlbgggnpoeleaaGreatDoor
