/-
 ChatName; ChatNote; ChatHead: several texts in one.
-/
import Derived.Test.YtnlbgggnpoeleaaGreatDoorEA
import Derived.Test.YtnlbgggnpoeleaaGreatDoorItoaI
import Derived.Test.YtnlbgggnpoeleaaGreatDoorKB
set_option maxRecDepth 100000
set_option maxHeartbeats 6400000
namespace Go.Proofs.YtnlbgggnpoeleaaGreatDoor
open Go.RowKit Go.Lib
open List renaming setIfInBounds_toArray -> sA, set_cons_zero -> sB, set_cons_succ -> sC
open BigFrame renaming wpList_want -> wQ
structure Tab2 (w:World):Prop where
 t:Tab w
 p : Lib.TabIs Tryz.prog w "internal/strconv.uint64pow10" .u64 Lib.pow10Tab
 lt:1<w.heap.size
theorem gTens : Tryz.prog.globalNamed "internal/strconv.uint64pow10" = some 1 := by kernel_rfl
theorem Tab2.kept {w x:World}(h:Tab2 w)(k:Kept w.heap.size w.heap.size w x):Tab2 x:=by
 refine⟨h.t.kept k h.t.lt h.t.lt,?_,zC h.lt k.size⟩;have hp:=h.p;unfold Lib.TabIs World.var? at hp |-;rw[gTens] at hp |-;simp only[Option.bind_some] at hp |-;rw[k.block 1 h.lt (zD h.lt)];exact hp
theorem Qh1 (n:Int)(h0 : -9223372036854775808<=n)(h1:n<=9223372036854775807)(w:World)(tab:Tab2 w):Calls Tryz.prog 32 #[.int .i64 n] w λe w'=>e=.returned (.string (str (Lib.itoa n)))/\Kept w.heap.size w.heap.size w w':=by
 refine(Tryz.strconv_Itoa n h0 h1 w tab.p).mono ?_;rintro e w' ⟨rfl,k,os,rfl⟩;refine⟨rfl,?_⟩;have hd:=(Kept.refl w.heap.size w.heap.size w).drewN k;refine⟨hd.os,hd.tape,hd.output,?_,λi hi _=>?_⟩
 ·show w.heap.size<=((w.drewN k).heap++os).size
  rw[Array.size_append];exact Nat.le_trans hd.size (Nat.le_add_right _ _)
 ·show((w.drewN k).heap++os)[i]?=_
  rw[Array.getElem?_append_left (zC hi hd.size)];exact hd.block i hi (zD hi)
theorem Qe9:∀ (k u:Nat),u<10 ^ (k+1)->Lib.nDigits u<=k+1
 | 0,u,h=>by rw[Lib.nDigits_small (by simpa using h)];exact zB _
 | k+1,u,h=>by
  by_cases h1:u<10
  ·rw[Lib.nDigits_small h1];omega
  ·rw[Lib.nDigits_big h1]
   have:=Qe9 k (u/10) (by rw[Nat.pow_succ] at h;omega)
   omega
theorem Qen (n:Int)(h0 : -9223372036854775808<=n)(h1:n<=9223372036854775807):(Lib.itoa n).length<=20:=by
 unfold Lib.itoa
 by_cases h:n<0
 ·rw[zG h,List.length_cons,Lib.decDigits_length]
  have:=Qe9 18 n.natAbs (by omega)
  omega
 ·rw[if_neg h,Lib.decDigits_length]
  have:=Qe9 18 n.toNat (by omega)
  omega
namespace Cn
def name (ep:List UInt8)(a g:Int):List UInt8:=[110,111,116,101,32]++(Sm.hex ep++(32::(Lib.itoa a++(32::Lib.itoa g))))
end Cn
theorem Qhx (ep:List UInt8)(hep:ep.length=32)(a g:Int)(ha0 : -9223372036854775808<=a)(ha1:a<=9223372036854775807)(hg0 : -9223372036854775808<=g)(hg1:g<=9223372036854775807)(w:World)(tab:Tab2 w):
  Calls Tryz.prog 10 #[.agg (bY ep).toArray,.int .i64 a,.int .i64 g] w λe w'=>e=.returned (.string (str (Cn.name ep a g)))/\Kept w.heap.size w.heap.size w w':=by
 have HHX:=hid (λ(x:World)=>Qnl ep hep x)
 have HIA:=hid (λ(x:World) (k:Kept w.heap.size w.heap.size w x)=>Qh1 a ha0 ha1 x (tab.kept k))
 have HIG:=hid (λ(x:World) (k:Kept w.heap.size w.heap.size w x)=>Qh1 g hg0 hg1 x (tab.kept k))
 have HLK:=hid (λ(u:World) (b:Nat) (h:u.heap[b]?=some (.cells (bY ep).toArray 23 (0,0)))=>Qb3 (Qam h) hep)
 have hl1:(Sm.hex ep).length=64:=by rw[Qjl,hep]
 have hl2:=Qen a ha0 ha1;have hl3:=Qen g hg0 hg1;have HEQ:Hid ((([110,111,116,101,32]++Sm.hex ep)++[32]++Lib.itoa a++[32]++Lib.itoa g)=Cn.name ep a g):=hid (by simp[Cn.name])
 obtain⟨hx,hhx⟩:∃x,x=Sm.hex ep:=⟨_,rfl⟩;obtain⟨ia,hia⟩:∃x,x=Lib.itoa a:=⟨_,rfl⟩;obtain⟨ig,hig⟩:∃x,x=Lib.itoa g:=⟨_,rfl⟩;rw[<-hhx] at HHX hl1 HEQ;rw[<-hia] at HIA hl2 HEQ;rw[<-hig] at HIG hl3 HEQ;obtain⟨EP,hEP⟩:∃x,x=(bY ep).toArray:=⟨_,rfl⟩;rw[<-hEP] at HHX HLK |-;have HX1:=hid (show ¬9223372036854775807<5+hx.length by omega)
 have HL1:=hid hl1;have HL2:=hid hl2;have HL3:=hid hl3;clear hhx hia hig hEP hl1 hl2 hl3 ha0 ha1 hg0 hg1 hep tab
 go_enter Tryz.func10,Tryz.ntmps10
 go_upto_region 0 with fail
 refine zA ?_;iterate 2(refine wW λK hK=>?_;go_simp;apply hK;clear hK K)
 have kn:Kept w.heap.size w.heap.size w (w.alloc (.cells EP 23)):=zI.alloc (zB _) _
 have rn:=Qaa w (.cells EP 23)
 generalize w.alloc (.cells EP 23)=w1 at kn rn |-
 obtain⟨nb,hnb⟩:∃x,x=w.heap.size:=⟨_,rfl⟩;rw[<-hnb] at rn
 (try rw[<-hnb])
 have RN:=hid rn;have K1:=hid kn;clear kn rn hnb
 go_upto_region 1 with fail
 refine zA ?_;refine wLk 23 (.tmp 3) rfl (nb) (0) rfl (.agg EP) (HLK.out _ _ RN.out) ?_
 simp only[Act.put,sA,sB,sC];refine wW λK hK=>?_;go_simp;go_at_call 31
 refine(HHX.out _).mono ?_;rintro e w2 ⟨rfl,k2⟩;have K2:=hid (K1.out.onto k2);clear k2;apply hK;clear hK K;refine @wQ _ _ _ _ _ _ _ ?_ ?_;kernel_rfl;intro K hK;go_simp
 (try rw[if_neg (by have:=HL1.out;have:=HL2.out;have:=HL3.out;omega)])
 apply hK;clear hK K;refine @wQ _ _ _ _ _ _ _ ?_ ?_;kernel_rfl;intro K hK;go_simp
 (try rw[if_neg (by have:=HL1.out;have:=HL2.out;have:=HL3.out;omega)])
 apply hK;clear hK K;refine wW λK hK=>?_;go_simp;apply hK;clear hK K;refine wW λK hK=>?_;go_simp;go_at_call 32
 refine(HIA.out _ K2.out).mono ?_;rintro e w3 ⟨rfl,k3⟩;have K3:=hid (K2.out.onto k3);clear k3;apply hK;clear hK K;refine @wQ _ _ _ _ _ _ _ ?_ ?_;kernel_rfl;intro K hK;go_simp
 (try rw[if_neg (by have:=HL1.out;have:=HL2.out;have:=HL3.out;omega)])
 apply hK;clear hK K;refine @wQ _ _ _ _ _ _ _ ?_ ?_;kernel_rfl;intro K hK;go_simp
 (try rw[if_neg (by have:=HL1.out;have:=HL2.out;have:=HL3.out;omega)])
 apply hK;clear hK K;refine wW λK hK=>?_;go_simp;apply hK;clear hK K;refine wW λK hK=>?_;go_simp;go_at_call 32
 refine(HIG.out _ K3.out).mono ?_;rintro e w4 ⟨rfl,k4⟩;have K5:=hid (K3.out.onto k4);clear k4;apply hK;clear hK K;refine @wQ _ _ _ _ _ _ _ ?_ ?_;kernel_rfl;intro K hK;go_simp
 (try rw[if_neg (by have:=HL1.out;have:=HL2.out;have:=HL3.out;omega)])
 apply hK;clear hK K;refine wW λK hK=>?_;go_simp;apply hK;clear hK K;go_wp2;go_ret;exact⟨by rw[<-HEQ.out];simp[Qa5],K5.out⟩
structure Nt where
 ep:List UInt8
 depth:Int
 author:Int
 gen:Int
 text:ByteArray
def Nt.cells (n:Nt):List Value:=bY n.ep++[.int .i64 n.depth,.int .i64 n.author,.int .i64 n.gen,.string n.text]
def Nt.zero:Nt:=⟨Tt.z32,0,0,0,⟨#[]⟩⟩
theorem Nt.cells_length {n:Nt}(h:n.ep.length=32):n.cells.length=36:=by simp[Nt.cells,bZ,h]
theorem Nt.size {n:Nt}(h:n.ep.length=32):n.cells.toArray.size=36:=by rw[List.size_toArray,Nt.cells_length h]
theorem Nt.cells_one (n:Nt):∀v∈n.cells,v.oneCell'=true:=λv hv=>by
 rcases List.mem_append.1 hv with hv|hv
 ·exact Qan _ v hv
 ·simp at hv
  rcases hv with rfl|rfl|rfl|rfl <;> rfl
theorem Nt.all (n:Nt):n.cells.toArray.all (·.oneCell')=true:=all_oneCell_toArray n.cells_one
section
variable {w:World} {b o:Nat} {n:Nt}
theorem Nt.at_ep (h:w.rangeAt b o n.cells):w.rangeAt b o (bY n.ep):=Qaz h [] _ _ rfl _ (by simp)
theorem Nt.at_mid (h:w.rangeAt b o n.cells)(k:n.ep.length=32):w.rangeAt b (o+32) [.int .i64 n.depth,.int .i64 n.author,.int .i64 n.gen,.string n.text]:=Qaz h (bY n.ep) _ [] (by simp[Nt.cells]) _ (by rw[bZ,k])
end
theorem noteInfo {cs:Array Value}(h:cs.size=36):(Tryz.prog.info? 25).map (·.size)=some cs.size:=by rw[h];kernel_rfl
theorem Qbu {w:World}{b:Nat}{n:Nt}(hn:n.ep.length=32)(h:w.heap[b]?=some (.cells n.cells.toArray 25 (0,0))):(loadVar 25 ⟨b,0,none⟩).run Tryz.prog w=.ok (.agg n.cells.toArray) w:=
 run_loadVar_row w b 25 25 _ (0,0) _ h Tryz.underlying25 rfl (noteInfo (Nt.size hn))
theorem Qi9 {w:World}{b:Nat}{n:Nt}(hn:n.ep.length=32)(h:w.heap[b]?=some (.cells n.cells.toArray 25 (0,0))):(loadVar 23 ⟨b,0,none⟩).run Tryz.prog w=.ok (.agg (bY n.ep).toArray) w:=
 Qb3 (Nt.at_ep (Qam h)) hn
theorem Qbj {w:World}{b:Nat}{n:Nt}(hn:n.ep.length=32)(h:w.heap[b]?=some (.cells n.cells.toArray 25 (0,0))):w.cell? ⟨b,32,none⟩=some (.int .i64 n.depth)/\w.cell? ⟨b,33,none⟩=some (.int .i64 n.author)/\w.cell? ⟨b,34,none⟩=some (.int .i64 n.gen)/\w.cell? ⟨b,35,none⟩=some (.string n.text):=by
 have h1:=Nt.at_mid (Qam h) hn;simp only[Nat.zero_add] at h1;exact⟨h1 0 _ rfl,h1 1 _ rfl,h1 2 _ rfl,h1 3 _ rfl⟩
theorem Qbr (w:World):(Instr.alloc 25 true (.tuple #[])).run Tryz.prog w=.ok (.pointer (some ⟨w.heap.size,0,none⟩)) (w.alloc (.cells Nt.zero.cells.toArray 25)):=by kernel_rfl
theorem Qjy (w:World):(Instr.build 25 #[]).run Tryz.prog w=.ok (.agg Nt.zero.cells.toArray) w:=by kernel_rfl
theorem Qp4 (ep:List UInt8)(h:ep.length=32)(d a g:Int)(w:World):(Instr.build 25 #[(0,.agg (bY ep).toArray),(1,.int .i64 d),(2,.int .i64 a),(3,.int .i64 g)]).run Tryz.prog w=.ok (.agg (Nt.cells ⟨ep,d,a,g,⟨#[]⟩⟩).toArray) w:=by
 revert ep
 refine Qbv ?_
 intros
 kernel_rfl
theorem Nt.set_text {n:Nt}(h:n.ep.length=32)(s:ByteArray):n.cells.set 35 (.string s)=({ n with text:=s }:Nt).cells:=by
 unfold Nt.cells;rw[List.set_append_right _ _ (by rw[bZ,h];decide),bZ,h]
 rfl
namespace Cn
def head (n:Nt):List UInt8:=n.ep++(Wm.enc n.depth.toNat++(Wm.enc n.author.toNat++Wm.enc n.gen.toNat))
def Num (n:Nt):Prop:=(0<=n.depth/\n.depth<=4611686018427387903)/\(0<=n.author/\n.author<=4611686018427387903)/\0<=n.gen/\n.gen<=4611686018427387903
theorem head_length {n:Nt}(h:n.ep.length=32):(head n).length<=56:=by
 have h1:=Wm.enc_length_le n.depth.toNat;have h2:=Wm.enc_length_le n.author.toNat;have h3:=Wm.enc_length_le n.gen.toNat;simp only[head,zE]
 omega
end Cn
theorem Pu.again14 {w0 w:World}{base b:Nat}{s:List UInt8}(h:Pu w0 base b s w):Pu w base b s w:=⟨h.wr,h.tab,Kept.refl _ _ _,Fr.refl _ _,h.pos⟩
theorem Pu.after14 {w0 w w1:World}{base b:Nat}{s s1:List UInt8}(h:Pu w0 base b s w)(h1:Pu w base b s1 w1):Pu w0 base b s1 w1:=⟨h1.wr,h1.tab,h.kp.trans h1.kp,h.fr.trans h1.fr,h.pos⟩
def encs (vs:List Nat):List UInt8:=(vs.map Wm.enc).flatten
theorem Qu7 (vs:List Nat)(v:Nat):encs (vs++[v])=encs vs++Wm.enc v:=by simp[encs]
theorem Qpt (vs:List Nat):(encs vs).length<=8*vs.length:=by
 induction vs with
 | nil=>exact zB _
 | cons v vs ih=>
  have:=Wm.enc_length_le v;have e:encs (v::vs)=Wm.enc v++encs vs:=by simp[encs]
  rw[e,zE,List.length_cons]
  omega
theorem Qlw (base b nb:Nat)(vs:List Nat)(hv:∀v∈vs,v<=4611686018427387903)(hl:vs.length<=1000)(s:List UInt8)(hs:s.length<=1000)(w:World)(h:Pu w base b s w)(hb:w.heap[nb]?=some (.cells (vs.map λ(v:Nat)=>Value.int .i64 (v:Int)).toArray 3 (0,0)))(hne:nb≠b):
  Calls Tryz.prog 58 #[.pointer (some ⟨b,0,none⟩),.slice (some ⟨nb,0,none⟩) vs.length vs.length] w λe w'=>e=.returned (.tuple #[])/\Pu w base b (s++encs vs) w':=by
 have HBX:=hid (λ(x:World) (s2:List UInt8) (p:Pu w base b s2 x)=>p.box hb hne (by decide))
 have HPN:=hid (λ(x:World) (s2:List UInt8) (p:Pu w base b s2 x) (v:Nat) (hv2:v∈vs) (hs2:s2.length<=100000)=>p.numL v (hv v hv2) hs2)
 have HS:=hid hs;obtain⟨ln,hln⟩:∃ln,ln=vs.length:=⟨_,rfl⟩;rw[<-hln];have hln9:(ln:Int)<=1000:=by omega
 have HLN:=hid hln;have HL9:=hid (show ln<=1000 by omega)
 have H0:=hid h;clear hv hl hs h hb hne hln
 go_enter Tryz.func58,Tryz.ntmps58
 go_upto_region 0 with fail
 refine zA ?_;iterate 3(refine wW λK hK=>?_;go_simp;apply hK;clear hK K)
 go_wp2_with fail
 go_loopw [8] (λs8 wr=>∃i:Nat,s8=.int .i64 (i:Int)/\Hid (i<=ln)/\Hid (Pu w base b (s++encs (vs.take i)) wr)) (λs8 _=>ln-(RowKit.intOf s8).toNat)
 case atStart=>exact⟨0,rfl,hid (Nat.zero_le _),hid (by simpa [encs] using H0.out)⟩
 case round=>
  clear H0;obtain⟨i,rfl,hi,HP⟩:=hrel
  by_cases hlt:i<ln
  ·have hlti:(i:Int)<(ln:Int):=by omega
   have hi0:¬(i:Int)<0:=by omega
   have hiV:i<vs.length:=by rw[<-HLN.out];exact hlt
   have cv:wr.cell? ⟨nb,i,none⟩=some (.int .i64 ((vs[i]:Nat):Int)):=by
    rw[cell_of_row wr nb i _ _ _ (HBX.out _ _ HP.out),List.getElem?_toArray,List.getElem?_map,List.getElem?_eq_getElem hiV]
    rfl
   have htk:=Qu7 (vs.take i) vs[i];rw[<-List.take_succ_eq_append_getElem hiV] at htk;have hlen:=Qpt (vs.take i);rw[List.length_take] at hlen;have HN:=hid (HPN.out wr _ HP.out vs[i] (List.getElem_mem hiV) (by rw[zE];have:=HS.out;have:=HL9.out;omega))
   generalize vs[i]=v at cv htk HN;have HTK:=hid htk;have HLT:=hid hlt;clear hlt hi hiV htk hlen
   go_upto_region 1 with fail
   refine zA ?_;refine wW λK hK=>?_;go_simp;apply hK;clear hK K
   go_upto_region 2 with fail
   refine zA ?_;iterate 3(refine wW λK hK=>?_;go_simp;apply hK;clear hK K)
   go_upto_region 3 with fail
   refine zA ?_;iterate 2(refine wW λK hK=>?_;go_simp;apply hK;clear hK K)
   refine wW λK hK=>?_;go_simp;go_at_call 60
   refine(HN.out).mono ?_;rintro e w4 ⟨rfl,p4⟩;have HQ:=hid p4;clear p4;apply hK;clear hK K;go_wp2
   go_roundw
   case rel=>exact⟨i+1,by simp,hid HLT.out,hid (by rw[HTK.out,<-List.append_assoc];exact HQ.out)⟩
   case measure=>have:=HLT.out;simp[RowKit.intOf];omega
  ·have hnl:¬(i:Int)<(ln:Int):=by omega
   have HE:=hid (show i=ln by have:=hi.out;omega)
   clear hlt hi;go_wp2
   go_end0
   refine⟨rfl,?_⟩;have h9:=HP.out
   rwa[HE.out,HLN.out,List.take_length] at h9
theorem Qgg (n:Nt)(hn:n.ep.length=32)(hv:Cn.Num n)(base b:Nat)(s:List UInt8)(hs:s.length<=900)(w:World)(h:Pu w base b s w):
  Calls Tryz.prog 28 #[.pointer (some ⟨b,0,none⟩),.agg n.cells.toArray] w λe w'=>e=.returned (.tuple #[])/\Pu w base b (s++Cn.head n) w':=by
 obtain⟨⟨hd0,hd1⟩,⟨ha0,ha1⟩,hg0,hg1⟩:=hv;have HPH:=hid (λ(w0 x:World) (p:Pu w0 base b s x)=>p.hash n.ep hn (by omega))
 have HPN:=hid (λ(nb:Nat) (x:World) (p:Pu x base b (s++n.ep) x) (hb:x.heap[nb]?=some (.cells ([n.depth.toNat,n.author.toNat,n.gen.toNat].map λ(v:Nat)=>Value.int .i64 (v:Int)).toArray 3 (0,0))) (hne:nb≠b)=>Qlw base b nb [n.depth.toNat,n.author.toNat,n.gen.toNat] (λv hv=>by simp at hv;omega) (by simp) (s++n.ep) (by rw[zE,hn];omega) x p hb hne)
 have hcd:((n.depth.toNat:Nat):Int)=n.depth:=by omega
 have hca:((n.author.toNat:Nat):Int)=n.author:=by omega
 have hcg:((n.gen.toNat:Nat):Int)=n.gen:=by omega
 have HEQ:=hid (show([n.depth.toNat,n.author.toNat,n.gen.toNat].map λ(v:Nat)=>Value.int .i64 (v:Int)).toArray = #[.int .i64 n.depth,.int .i64 n.author,.int .i64 n.gen] by simp[hcd,hca,hcg])
 have HEN:=hid (show(s++n.ep)++encs [n.depth.toNat,n.author.toNat,n.gen.toNat]=s++Cn.head n by simp[encs,Cn.head])
 have HSI:=hid (Nt.size hn);have HLE:=hid (λ(u:World) (nb:Nat) (h:u.heap[nb]?=some (.cells n.cells.toArray 25 (0,0)))=>Qi9 hn h)
 have HLC:=hid (λ(u:World) (nb:Nat) (h:u.heap[nb]?=some (.cells n.cells.toArray 25 (0,0)))=>Qbj hn h)
 obtain⟨ND,hND⟩:∃x,x=n.cells.toArray:=⟨_,rfl⟩;rw[<-hND] at HSI HLE HLC |-;obtain⟨EP,hEP⟩:∃x,x=(bY n.ep).toArray:=⟨_,rfl⟩;rw[<-hEP] at HPH HLE;obtain⟨dv,hdv⟩:∃x,x=n.depth:=⟨_,rfl⟩;obtain⟨av,hav⟩:∃x,x=n.author:=⟨_,rfl⟩;obtain⟨gv,hgv⟩:∃x,x=n.gen:=⟨_,rfl⟩;have HLC2:=hid (λ(u:World) (nb:Nat) (h:u.heap[nb]?=some (.cells ND 25 (0,0)))=>(show u.cell? ⟨nb,32,none⟩=some (.int .i64 dv)/\u.cell? ⟨nb,33,none⟩=some (.int .i64 av)/\u.cell? ⟨nb,34,none⟩=some (.int .i64 gv) from by rw[hdv,hav,hgv];exact⟨(HLC.out u nb h).1,(HLC.out u nb h).2.1,(HLC.out u nb h).2.2.1⟩))
 have HEQ2:=hid (show([n.depth.toNat,n.author.toNat,n.gen.toNat].map λ(v:Nat)=>Value.int .i64 (v:Int)).toArray = #[.int .i64 dv,.int .i64 av,.int .i64 gv] from by rw[hdv,hav,hgv];exact HEQ.out)
 have H0:=hid h;clear hd0 hd1 ha0 ha1 hg0 hg1 hcd hca hcg hn hs hND hEP hdv hav hgv h HLC
 go_enter Tryz.func28,Tryz.ntmps28
 go_upto_region 0 with fail
 refine zA ?_;refine wW λK hK=>?_;go_simp;apply hK;clear hK K;have kn:Kept w.heap.size w.heap.size w (w.alloc (.cells ND 25)):=zI.alloc (zB _) _
 have rn:=Qaa w (.cells ND 25)
 have P1:=hid (H0.out.kept kn);generalize w.alloc (.cells ND 25)=w1 at kn rn P1 |-
 obtain⟨nb,hnb⟩:∃x,x=w.heap.size:=⟨_,rfl⟩;rw[<-hnb] at rn
 (try rw[<-hnb])
 have HNE:=hid (show nb≠b by have:=H0.out.wr.lt;have:=H0.out.wr.le;omega)
 have HBL:=hid (show b<w1.heap.size by have:=P1.out.wr.lt;have:=P1.out.wr.le;omega)
 have RN:=hid rn;clear kn rn hnb
 go_upto_region 1 with fail
 refine zA ?_;iterate 2(refine wW λK hK=>?_;go_simp;apply hK;clear hK K)
 refine wLk 23 (.tmp 5) rfl (nb) (0) rfl (.agg EP) (HLE.out _ _ RN.out) ?_
 simp only[Act.put,sA,sB,sC];refine wW λK hK=>?_;go_simp;go_at_call 57
 refine(HPH.out _ _ P1.out.again14).mono ?_;rintro e w3 ⟨rfl,p3⟩;have P3:=hid p3;have P2:=hid (P1.out.after14 p3);clear p3;apply hK;clear hK K;have rn3:=P3.out.box RN.out HNE.out (by decide)
 obtain⟨c32,c33,c34⟩:=HLC2.out w3 nb rn3;have kx:Kept w3.heap.size w3.heap.size w3 (w3.alloc (.cells #[.int .i64 dv,.int .i64 av,.int .i64 gv] 3)):=zI.alloc (zB _) _
 have rx:=Qaa w3 (.cells #[.int .i64 dv,.int .i64 av,.int .i64 gv] 3)
 have P4:=hid (P2.out.kept kx);have HNE3:=hid (show w3.heap.size≠b by have:=P2.out.wr.lt;have:=P2.out.wr.le;omega)
 have RX:=hid rx;clear kx rx rn3
 go_upto_region 2 with fail
 refine zA ?_;iterate 8(refine wW λK hK=>?_;go_simp;apply hK;clear hK K)
 refine wW λK hK=>?_;go_simp;go_at_call 58
 refine(HPN.out _ _ P4.out.again14 (by rw[HEQ2.out];exact RX.out) HNE3.out).mono ?_
 rintro e w5 ⟨rfl,p5⟩;have P5:=hid p5;clear p5;apply hK;clear hK K;go_wp2
 go_end0
 refine⟨rfl,?_⟩;rw[<-HEN.out];exact P4.out.after14 P5.out
theorem Qew (base b:Nat)(s:List UInt8)(w:World)(h:Wr w base b (some s)):Calls Tryz.prog 30 #[.pointer (some ⟨b,0,none⟩)] w λe w'=>e=.returned (.string (str s))/\w'=w:=by
 have HE:=hid (Qtr base b s w h);obtain⟨ss,hss⟩:∃ss,ss=str s:=⟨_,rfl⟩;rw[<-hss] at HE |-;clear h hss
 go_enter Tryz.func30,Tryz.ntmps30
 go_wp2_with (go_at_call 62;refine HE.out.mono ?_;rintro e w' ⟨rfl,hw⟩;subst w')
 go_ret;exact⟨rfl,rfl⟩
theorem Qh4 (n:Nt)(hn:n.ep.length=32)(hv:Cn.Num n)(w:World)(tab:Tab w):
  Calls Tryz.prog 46 #[.agg n.cells.toArray] w λe w'=>e=.returned (.string (str (Cn.head n)))/\Kept w.heap.size w.heap.size w w':=by
 have HPH:=hid (λ(base b:Nat) (x:World) (p:Pu x base b [] x)=>Qgg n hn hv base b [] (by simp) x p)
 have HLN:=hid (λ(u:World) (nb:Nat) (h:u.heap[nb]?=some (.cells n.cells.toArray 25 (0,0)))=>Qbu hn h)
 obtain⟨ND,hND⟩:∃x,x=n.cells.toArray:=⟨_,rfl⟩;rw[<-hND] at HPH HLN |-;have HWR:=hid (λ(base b:Nat) (x:World) (h:Wr x base b (some (Cn.head n)))=>Qew base b (Cn.head n) x h)
 obtain⟨ss,hss⟩:∃ss,ss=str (Cn.head n):=⟨_,rfl⟩;rw[<-hss] at HWR |-;have HTB:=hid tab;clear hn hv hND hss tab
 go_enter Tryz.func46,Tryz.ntmps46
 go_upto_region 0 with fail
 refine zA ?_;iterate 2(refine wW λK hK=>?_;go_simp;apply hK;clear hK K)
 have kn:Kept w.heap.size w.heap.size w (w.alloc (.cells ND 25)):=zI.alloc (zB _) _
 have rn:=Qaa w (.cells ND 25)
 generalize w.alloc (.cells ND 25)=w1 at kn rn |-
 obtain⟨nb,hnb⟩:∃x,x=w.heap.size:=⟨_,rfl⟩;rw[<-hnb] at rn
 (try rw[<-hnb])
 have RN:=hid rn;have K1:=hid kn;clear kn rn hnb
 go_upto_region 1 with fail
 refine zA ?_;refine wW λK hK=>?_;go_simp;go_at_call 27
 refine(Qja w1).mono ?_;rintro e w2 ⟨rfl,hw2,k2,hs2⟩;obtain⟨wb,hwb⟩:∃x,x=w1.heap.size:=⟨_,rfl⟩;rw[<-hwb] at hw2
 (try rw[<-hwb])
 have P2:=hid (Pu.start hw2 (HTB.out.onto11 (K1.out.onto k2)) (by have:=HTB.out.lt;have:=K1.out.size;omega))
 have RN2:=hid (rK RN.out k2);have K2:=hid (K1.out.onto k2);have HWB:=hid (show w.heap.size<=wb by rw[hwb];exact K1.out.size)
 clear hw2 k2 hs2 hwb;apply hK;clear hK K;refine wW λK hK=>?_;go_simp;apply hK;clear hK K
 go_upto_region 2 with fail
 refine zA ?_;refine wW λK hK=>?_;go_simp;apply hK;clear hK K;refine wLk 25 (.tmp 1) rfl (nb) (0) rfl (.agg ND) (HLN.out _ _ RN2.out) ?_
 simp only[Act.put,sA,sB,sC];refine wW λK hK=>?_;go_simp;go_at_call 28
 refine(HPH.out _ _ _ P2.out).mono ?_;rintro e w3 ⟨rfl,p3⟩;rw[List.nil_append] at p3;have P3:=hid p3;have KF:=hid (show Kept w.heap.size w.heap.size w w3 from K2.out.trans ⟨p3.kp.os,p3.kp.tape,p3.kp.output,p3.kp.size,λi hi _=>p3.kp.block i (by have:=HWB.out;omega) (by have:=HWB.out;omega)⟩)
 clear p3;apply hK;clear hK K
 go_upto_region 3 with fail
 refine zA ?_;refine wW λK hK=>?_;go_simp;apply hK;clear hK K;refine wW λK hK=>?_;go_simp;go_at_call 30
 refine(HWR.out _ _ _ P3.out.wr).mono ?_;rintro e w4 ⟨rfl,hw⟩;subst hw;apply hK;clear hK K;refine wW λK hK=>?_;go_simp;apply hK;clear hK K;go_wp2;go_ret;exact⟨rfl,KF.out⟩
end Go.Proofs.YtnlbgggnpoeleaaGreatDoor
