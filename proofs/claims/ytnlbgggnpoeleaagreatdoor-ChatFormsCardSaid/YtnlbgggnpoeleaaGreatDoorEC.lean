/-
 EraApps; EraMake0: several texts in one.
-/
import Derived.Test.YtnlbgggnpoeleaaGreatDoorEB
import Derived.Test.YtnlbgggnpoeleaaGreatDoorTreeJoinMath
import Derived.Test.YtnlbgggnpoeleaaGreatDoorKC
set_option maxRecDepth 100000
set_option maxHeartbeats 6400000
namespace Go.Proofs.YtnlbgggnpoeleaaGreatDoor
open Go.RowKit Go.Lib
open List renaming setIfInBounds_toArray -> sA, set_cons_zero -> sB, set_cons_succ -> sC
open BigFrame renaming wpList_want -> wQ
theorem RowIs.aside14 {u u':World}{rb bits b:Nat}{sl:Value}{Ls:List Sd}(h:RowIs u rb bits sl Ls)(g:u.grownBy u' (some b))(h1:rb≠b)(h2:∀k,sl.ownBlock=some k->k≠b):RowIs u' rb bits sl Ls:=by
 refine⟨(g.block rb (zF h.1) (λe=>h1 (Option.some.inj e))).trans h.1,?_⟩
 obtain⟨ad,g',o,c,rfl,q,hc⟩:=h.2;refine⟨ad,g',o,c,rfl,λi hi=>?_,hc⟩
 obtain⟨q1,q2,q3⟩:=q i hi;have hne:g'≠b:=h2 g' (by rw[q1];rfl)
 exact⟨q1,zC q2 g.size,λj v hv=>(World.cell?_of_block (w:=u) (g.block g' q2 (λe=>hne (Option.some.inj e)))).trans (q3 j v hv)⟩
def rptr:Option Nat->Value
 | none=>.pointer none
 | some rb=>.pointer (some ⟨rb,0,none⟩)
structure ApSt (w u:World) (g n i:Nat) (S:Nat->List Sd) (L:List Lf) (R:List (Option Nat)):Prop where
 k:Kept w.heap.size w.heap.size w u
 own:OwnC u 0 94 1 (.slice (some ⟨g,0,none⟩) n n) (R.map λo=>[rptr o])
 len:R.length=n
 gb:w.heap.size<=g
 blank:∀(j:Nat) (hj:j<L.length),j<i->(R[j]?=some none↔(L[j]'hj).name=0)
 late:∀j,i<=j->j<n->R[j]?=some none
 row:∀(j rb:Nat),R[j]?=some (some rb)->g<rb/\∃sl,RowIs u rb 8 sl (S j)/\∀k,sl.ownBlock=some k->g<k/\k<rb
 apart:∀i j rb:Nat,R[i]?=some (some rb)->R[j]?=some (some rb)->i=j
section
variable {w u u':World} {g n i:Nat} {S:Nat->List Sd} {L:List Lf} {R:List (Option Nat)}
theorem ApSt.kept (h:ApSt w u g n i S L R)(k:Kept u.heap.size u.heap.size u u'):ApSt w u' g n i S L R:=
 { h with
   k:=h.k.onto k
   own:=h.own.kept k (zB _)
   row:=λj rb hj=>by
    obtain⟨h1,sl,h2,h3⟩:=h.row j rb hj;exact⟨h1,sl,h2.kept k,h3⟩ }
theorem ApSt.base {v:World}(h:ApSt w u g n i S L R)(k:Kept v.heap.size v.heap.size v w):ApSt v u g n i S L R:=
 { h with k:=k.onto h.k,gb:=Nat.le_trans k.size h.gb }
theorem ApSt.lt (h:ApSt w u g n i S L R):g<u.heap.size:=(World.ownsRow.lt h.own.2 g rfl).2
theorem ApSt.block (h:ApSt w u g n i S L R):∃cur,u.heap[g]?=some (.cells cur 94 (0,0)):=by
 rcases h.own.2.2 with⟨h1,_⟩|⟨g',cap,cur,h1,_,h2,_⟩
 ·cases h1
 ·cases h1
  exact⟨cur,h2⟩
theorem ApSt.there (h:ApSt w u g n i S L R){j:Nat}(hj:j<n):(∃v,u.cell? ⟨g,j,none⟩=some v)/\u.frozen? ⟨g,j,none⟩=false:=by
 rcases h.own.2.2 with⟨h1,_⟩|⟨g',cap,cur,h1,_,h2,_,_,h5,_⟩
 ·cases h1
 ·injection h1 with q1 q2 q3
  injection q1 with q1
  injection q1 with q1
  subst q1;subst q3;refine⟨?_,by simp[World.frozen?,h2]⟩
  have hs:j<cur.size:=by rw[h5];omega
  exact⟨cur[j],by simp[World.cell?,h2,hs]⟩
theorem ApSt.skip (h:ApSt w u g n i S L R)(hn:L.length=n)(hi:i<L.length)(h0:(L[i]'hi).name=0):ApSt w u g n (i+1) S L R:=
 { h with
   blank:=λj hj hji=>by
    rcases Nat.lt_or_ge j i with h1|h1
    ·exact h.blank j hj h1
    ·obtain rfl:j=i:=by omega
     exact⟨λ_=>h0,λ_=>h.late j (zB _) (by omega)⟩
   late:=λj h1 h2=>h.late j (by omega) h2 }
theorem ApSt.put (h:ApSt w u g n i S L R)(hn:L.length=n)(hi:i<L.length)(h0:(L[i]'hi).name≠0){rb:Nat}{sl:Value}(hr:RowIs u rb 8 sl (S i))(ht:∀k,sl.ownBlock=some k->g<k/\k<rb)(hg:g<rb)(hf:∀j:Nat,R[j]?≠some (some rb)):
  ApSt w (u.setCell ⟨g,i,none⟩ (.pointer (some ⟨rb,0,none⟩))) g n (i+1) S L (R.set i (some rb)):=by
 have hil:i<(R.map λo=>[rptr o]).length:=by rw[List.length_map,h.len];omega
 have ho:=h.own;rw[show n=(R.map λo=>[rptr o]).length by rw[List.length_map,h.len]] at ho
 obtain⟨h1,h2⟩:=OwnC.put ho i hil [rptr (some rb)] rfl (λy hy=>by rw[List.mem_singleton.1 hy];rfl)
 have he:u.setCells g (i*1) [rptr (some rb)]=u.setCell ⟨g,i,none⟩ (.pointer (some ⟨rb,0,none⟩)):=by
  rw[Nat.mul_one];rfl
 rw[he] at h1 h2;rw[show(R.map λo=>[rptr o]).length=n by rw[List.length_map,h.len]] at h1
 have hmap:(R.map λo=>[rptr o]).set i [rptr (some rb)]=(R.set i (some rb)).map λo=>[rptr o]:=by rw[List.map_set]
 rw[hmap] at h1
 have hset:∀j:Nat,(R.set i (some rb))[j]?=if i=j then some (some rb) else R[j]?:=λj=>by
  rw[List.getElem?_set]
  by_cases e:i=j
  ·rw[zG e,zG e,zG (by rw[h.len];omega)]
  ·rw[if_neg e,if_neg e]
 exact
  { k:=h.k.grown h2 h.k.size (λk e=>by cases e;exact h.gb)
    own:=h1
    len:=by rw[List.length_set,h.len]
    gb:=h.gb
    blank:=λj hj hji=>by
     rw[hset]
     by_cases e:i=j
     ·subst e
      rw[zG rfl];exact⟨(λe=>by cases e),λe=>absurd e h0⟩
     ·rw[if_neg e]
      exact h.blank j hj (by omega)
    late:=λj h3 h4=>by
     rw[hset,if_neg (by omega)]
     exact h.late j (by omega) h4
    row:=λj rb2 hj=>by
     rw[hset] at hj
     by_cases e:i=j
     ·subst e
      rw[zG rfl] at hj
      cases hj
      exact⟨hg,sl,hr.aside14 h2 (by omega) (λk e=>by have:=(ht k e).1;omega),ht⟩
     ·rw[if_neg e] at hj
      obtain⟨q1,s2,q2,q3⟩:=h.row j rb2 hj;exact⟨q1,s2,q2.aside14 h2 (by omega) (λk e=>by have:=(q3 k e).1;omega),q3⟩
    apart:=λa b r ha hb=>by
     rw[hset] at ha hb
     by_cases e1:i=a
     ·by_cases e2:i=b
      ·omega
      ·rw[zG e1] at ha
       rw[if_neg e2] at hb
       cases ha
       exact absurd hb (hf b)
     ·rw[if_neg e1] at ha
      by_cases e2:i=b
      ·rw[zG e2] at hb
       cases hb
       exact absurd ha (hf a)
      ·rw[if_neg e2] at hb
       exact h.apart a b r ha hb }
end
theorem rowPtrFull:(Tryz.prog.info? 94).map (λi=>(i.zero.map (·.cells.size),i.size,i.bytes))=some (some 1,1,8):=by kernel_rfl
theorem rowPtrZero:(Tryz.prog.info? 94).bind (λi=>i.zero.map (·.cells))=some ([Value.pointer none]:List Value).toArray:=by kernel_rfl
theorem Qun (w:World)(n:Nat)(hn:n<=1000):
  ∃w',(Instr.makeSlice 95 (.int .i64 (n:Int)) (.int .i64 (n:Int))).run Tryz.prog w=.ok (.slice (some ⟨w.heap.size,0,none⟩) n n) w'/\OwnC w' 0 94 1 (.slice (some ⟨w.heap.size,0,none⟩) n n) (List.replicate n [Value.pointer none])/\w.grownBy w' none:=
 Qum w _ _ 1 8 _ (λy hy=>by rw[List.mem_singleton.1 hy];rfl) Tryz.underlying95 rowPtrFull rowPtrZero rfl (by decide) (by decide) n hn
theorem Qtg (w u:World)(n:Nat)(S:Nat->List Sd)(L:List Lf)(k:Kept w.heap.size w.heap.size w u)(g:Nat)(hg:w.heap.size<=g)(ho:OwnC u 0 94 1 (.slice (some ⟨g,0,none⟩) n n) (List.replicate n [Value.pointer none])):ApSt w u g n 0 S L (List.replicate n none):=
 { k:=k
   own:=by rw[List.map_replicate];exact ho
   len:=List.length_replicate ..
   gb:=hg
   blank:=λ_ _ h=>absurd h (Nat.not_lt_zero _)
   late:=λj _ h=>by rw[List.getElem?_replicate,zG h]
   row:=λj rb h=>by
    rw[List.getElem?_replicate] at h
    split at h <;> cases h
   apart:=λa b rb h=>by
    rw[List.getElem?_replicate] at h
    split at h <;> cases h }
section
variable {P:Program} {ops:Array Oper} {rest:List Oper} {o:Oper} {a:Act} {w w':World} {Q:Exit->Act->World->Prop}
theorem Qq7 (hw:Region.wanted o (yielded ops a.tmps)=true)(t:TypeId)(x y:Operand)(ho:o.op=.makeSlice t x y)(n c v:Value)(hx:a.eval x=n)(hy:a.eval y=c)(hr:(Instr.makeSlice t n c).run P w=.ok v w')(hk:wpList P ops Q rest (a.put o.dst v) w'):wpList P ops Q (o::rest) a w:=by
 refine wpList_step λK hK=>?_
 rw[zG hw];exact Qlh t x y ho _ rfl n c v hx hy hr (hK _ _ hk)
end
theorem Qgl (l:List UInt8)(hl:l.length=32)(bits:Nat)(h1:1<=bits)(h2:bits<=32)(w:World):Calls Tryz.prog 68 #[.agg (bY l).toArray,.int .i64 (bits:Int)] w λe w'=>∃rb sl,e=.returned (.pointer (some ⟨rb,0,none⟩))/\w.heap.size<=rb/\RowIs w' rb bits sl [⟨0,0,l⟩]/\Kept w.heap.size w.heap.size w w'/\∀k,sl.ownBlock=some k->w.heap.size<=k/\k<rb:=by
 have HN:=hid (λx=>Qot l hl bits h1 h2 x)
 have HLK:=hid (λ(u:World) (b:Nat) (h:u.heap[b]?=some (.cells (bY l).toArray 23 (0,0)))=>Qb3 (Qam h) hl)
 generalize (bY l).toArray=lc at HN HLK |-;clear h1 h2 hl
 go_enter Tryz.func68,Tryz.ntmps68
 go_upto_region 0 with fail
 refine zA ?_;iterate 2(refine wW λK hK=>?_;go_simp;apply hK;clear hK K)
 have kn:Kept w.heap.size w.heap.size w (w.alloc (.cells lc 23)):=zI.alloc (zB _) _
 have LK:=hid (HLK.out _ _ (Qaa w (.cells lc 23)))
 generalize w.alloc (.cells lc 23)=w1 at kn LK |-
 obtain⟨pb,hpb⟩:∃n,n=w.heap.size:=⟨_,rfl⟩;rw[<-hpb] at LK
 (try rw[<-hpb])
 clear hpb HLK;have KN:=hid kn;clear kn
 go_upto_region 1 with fail
 refine zA ?_;refine wLk 23 (.tmp 2) rfl (pb) (0) rfl (.agg lc) (LK.out) ?_
 simp only[Act.put,sA,sB,sC];refine wW λK hK=>?_;go_simp;apply hK;clear hK K;refine wW λK hK=>?_;go_simp;go_at_call 96
 refine(HN.out w1).mono ?_;rintro e w2 ⟨rb,sl,rfl,hrb,hr,k2,hty⟩;have HRB:=hid hrb;have HR:=hid hr;have KX:=hid k2;have HTY:=hid hty;clear hrb hr k2 hty;apply hK;clear hK K;iterate 5(refine wW λK hK=>?_;go_simp;apply hK;clear hK K)
 go_wp2;go_ret;exact⟨rb,sl,rfl,Nat.le_trans KN.out.size HRB.out,HR.out,KN.out.onto KX.out,λk e=>⟨Nat.le_trans KN.out.size (HTY.out k e).1,(HTY.out k e).2⟩⟩
theorem Ql0 (k:List UInt8)(hk:k.length=32)(lv:Value)(L:List Lf)(w:World)(tab:Tab w)(hL:Lvs w lv L)(hn:L.length<=64):
  Calls Tryz.prog 69 #[.pointer none,lv,.agg (bY k).toArray] w λe w'=>∃g,e=.returned (.slice (some ⟨g,0,none⟩) L.length L.length)/\∃R,ApSt w w' g L.length L.length (λj=>[⟨0,0,Ky.app k j⟩]) L R:=by
 have HAP:=hid (λ(n:Nat) (hn:n<64) (x:World) (kx:Kept w.heap.size w.heap.size w x)=>Qvi k hk n hn x (tab.onto11 kx))
 have HNR:=hid (λ(n:Nat) (x:World)=>Qgl (Ky.app k n) (Ky.app_length k n) 8 (by decide) (by decide) x)
 have HLK:=hid (λ(u:World) (b:Nat) (h:u.heap[b]?=some (.cells (bY k).toArray 23 (0,0)))=>Qb3 (Qam h) hk)
 generalize (bY k).toArray=kc at HAP HLK |-;obtain⟨lad,lg,lo,lc,rfl,hlc,_⟩:=hL;obtain⟨ln,hln⟩:∃ln,ln=L.length:=⟨_,rfl⟩;rw[<-hln];have hln9:(ln:Int)<=64:=by omega
 have HML:=hid (λu=>Qun u ln (by omega))
 have HLN:=hid hln;have HL64:=hid (show ln<=64 by omega)
 have HLC:=hid hlc;clear hk tab hlc hln hn
 go_enter Tryz.func69,Tryz.ntmps69
 go_upto_region 0 with fail
 refine zA ?_;iterate 2(refine wW λK hK=>?_;go_simp;apply hK;clear hK K)
 have kn:Kept w.heap.size w.heap.size w (w.alloc (.cells kc 23)):=zI.alloc (zB _) _
 have rk:=Qaa w (.cells kc 23)
 generalize w.alloc (.cells kc 23)=w1 at kn rk |-
 obtain⟨pb,hpb⟩:∃n,n=w.heap.size:=⟨_,rfl⟩;rw[<-hpb] at rk
 (try rw[<-hpb])
 have K1:=hid kn;have LK:=hid (λ(x:World) (kx:Kept w1.heap.size w1.heap.size w1 x)=>HLK.out x pb (rK rk kx))
 clear hpb HLK kn rk;obtain⟨w2,er,ho,hg⟩:=HML.out w1;obtain⟨g,hge⟩:∃g,g=w1.heap.size:=⟨_,rfl⟩;rw[<-hge] at er ho;have ST0:=hid (Qtg w1 w2 ln (λj=>[⟨0,0,Ky.app k j⟩]) L ⟨hg.os,hg.tape,hg.output,hg.size,λk hk _=>hg.block k hk (λe=>nomatch e)⟩ g (by omega) ho)
 have ER:=hid er;clear er ho hg hge HML
 go_upto_region 1 with fail
 refine zA ?_;iterate 2(refine wW λK hK=>?_;go_simp;apply hK;clear hK K)
 refine @Qq7 _ _ _ _ _ _ _ _ ?_ 95 _ _ rfl _ _ _ rfl rfl ER.out ?_;kernel_rfl
 simp only[Act.put,sA,sB,sC];refine wW λK hK=>?_;go_simp;apply hK;clear hK K;clear ER
 go_upto_region 2 with fail
 refine zA ?_;iterate 3(refine wW λK hK=>?_;go_simp;apply hK;clear hK K)
 go_wp2_with fail
 go_loopw [15] (λs15 wr=>∃i:Nat,s15=.int .i64 (i:Int)/\Hid (i<=ln)/\∃R,Hid (ApSt w1 wr g ln i (λj=>[⟨0,0,Ky.app k j⟩]) L R)) (λs15 _=>ln-(RowKit.intOf s15).toNat)
 case atStart=>exact⟨0,rfl,hid (Nat.zero_le _),_,ST0⟩
 case round=>
  clear ST0;obtain⟨i,rfl,hi,R,HST⟩:=hrel
  by_cases hlt:i<ln
  ·have hiL:i<L.length:=by rw[<-HLN.out];exact hlt
   have hlti:(i:Int)<(ln:Int):=by omega
   have hi0:¬(i:Int)<0:=by omega
   obtain⟨had,hgl,hok,hr⟩:=HLC.out i hiL;subst had;have k0:=K1.out.onto HST.out.k;have hrw:=Qaf k0 hr hgl (zD hgl);have hla:=run_loadVar_mid wr lg (lo+i*97) 122 _ _ hrw Tryz.underlying122 rfl (by have:=leafInfo (Lf.size hok);simpa using this)
   have hsz:=Lf.size hok;have hall:=Lf.all L[i];have kb:Kept wr.heap.size wr.heap.size wr (wr.alloc (.cells L[i].cells.toArray 122)):=zI.alloc (zB _) _
   have hnb:=Qaa wr (.cells L[i].cells.toArray 122)
   have hcn:=Qcf hnb;have st2:=HST.out.kept kb;have HNM:=hid (λ(h0:L[i].name=0) (u:World) (S:Nat->List Sd) (h:ApSt w1 u g ln i S L R)=>h.skip HLN.out.symm hiL h0)
   have HNP:=hid (λ(h0:L[i].name≠0) (u:World) (S:Nat->List Sd) (rb:Nat) (sl:Value) (h:ApSt w1 u g ln i S L R)=>h.put (rb:=rb) (sl:=sl) HLN.out.symm hiL h0)
   obtain⟨nm,hnm⟩:∃nm,nm=L[i].name:=⟨_,rfl⟩;rw[<-hnm] at HNM HNP hcn;obtain⟨D,hD⟩:∃D,D=L[i].cells.toArray:=⟨_,rfl⟩;rw[<-hD] at hla hsz hall kb hnb hcn st2;have HLA:=hid hla;have HSZ:=hid hsz;have HALL:=hid hall;have HCN:=hid hcn;have ST2:=hid st2;have HLT:=hid hlt;have HI64:=hid (show i<64 by have:=HL64.out;omega)
   clear hlt hi hgl hok hr k0 hrw hla hsz hall kb hnb hcn st2 hnm hD hiL HST
   go_upto_region 3 with fail
   refine zA ?_;refine wW λK hK=>?_;go_simp;apply hK;clear hK K
   go_upto_region 4 with fail
   refine zA ?_;iterate 2(refine wW λK hK=>?_;go_simp;apply hK;clear hK K)
   refine wLk 122 (.tmp 18) rfl (lg) (lo+i*97) rfl (.agg D) (HLA.out) ?_
   simp only[Act.put,sA,sB,sC];refine @Qas _ _ _ _ _ _ _ _ ?_ 122 rfl _ (Qhm _) ?_;kernel_rfl
   simp only[Act.put,sA,sB,sC];refine wW λK hK=>?_;go_simp;apply hK;clear hK K;refine wpList_store_row rfl 122 _ _ rfl (wr.heap.size) D rfl rfl 122 Lf.zero.cells.toArray (Qaa _ _) (leafInfo HSZ.out) (by rw[HSZ.out];exact Lf.size Lf.zero_ok) (HALL.out) ?_
   simp only[Act.put];rw[World.setRow_alloc_new];generalize wr.alloc (.cells D 122)=w4 at HCN ST2 |-
   obtain⟨lb,hlb⟩:∃lb,lb=wr.heap.size:=⟨_,rfl⟩;rw[<-hlb] at HCN
   (try rw[<-hlb])
   clear hlb;have cn:=HCN.out
   by_cases h0:nm=0
   ·have hb0:(nm == 0)=true:=by rw[h0];rfl
    have HB:=hid (HNM.out h0 _ _ ST2.out);have hnb0:(nm != 0)=false:=by rw[h0];rfl
    clear h0 HNM HNP
    go_upto_region 5 with fail
    refine zA ?_;iterate 3(refine wW λK hK=>?_;go_simp;apply hK;clear hK K)
    go_wp2
    go_roundw
    case rel=>exact⟨i+1,by simp,hid HLT.out,R,HB⟩
    case measure=>have:=HLT.out;simp[RowKit.intOf];omega
   ·have hnb0:(nm != 0)=true:=by simpa using h0
    have HB:=hid (HNP.out h0);clear h0 HNM HNP
    go_upto_region 5 with fail
    refine zA ?_;iterate 3(refine wW λK hK=>?_;go_simp;apply hK;clear hK K)
    clear cn
    go_upto_region 6 with fail
    refine zA ?_;iterate 3(refine wW λK hK=>?_;go_simp;apply hK;clear hK K)
    refine wLk 23 (.tmp 5) rfl (pb) (0) rfl (.agg kc) (LK.out _ ST2.out.k) ?_
    simp only[Act.put,sA,sB,sC];refine wW λK hK=>?_;go_simp;apply hK;clear hK K;refine wW λK hK=>?_;go_simp;go_at_call 97
    refine(HAP.out i HI64.out _ (K1.out.onto ST2.out.k)).mono ?_;rintro e w5 ⟨rfl,k5⟩;have ST5:=hid (ST2.out.kept k5);clear k5;apply hK;clear hK K;refine wW λK hK=>?_;go_simp;go_at_call 68
    refine(HNR.out i _).mono ?_;rintro e w6 ⟨rb,sl,rfl,hrb,hr,k6,hty⟩;have ST6:=hid (ST5.out.kept k6)
    have ST7:=hid (HB.out _ _ rb sl ST6.out hr (λk e=>⟨by have:=ST5.out.lt;have:=(hty k e).1;omega,(hty k e).2⟩) (by have:=ST5.out.lt;omega) (λj hj=>by
     obtain⟨_,_,h9,_⟩:=ST5.out.row j rb hj;have:=zF h9.1
     omega))
    obtain⟨⟨v9,c9⟩,f9⟩:=ST6.out.there HLT.out;clear hrb hr k6 hty;apply hK;clear hK K;refine wW λK hK=>?_;go_simp;apply hK;clear hK K;have c99:=c9;have f99:=f9;refine wW λK hK=>?_;go_simp;apply hK;clear hK K;clear c99 f99;go_wp2
    go_roundw
    case rel=>exact⟨i+1,by simp,hid HLT.out,_,ST7⟩
    case measure=>have:=HLT.out;simp[RowKit.intOf];omega
  ·have hnl:¬(i:Int)<(ln:Int):=by omega
   have HE:=hid (show i=ln by have:=hi.out;omega)
   clear hlt hi
   go_upto_region 8 with fail
   refine zA ?_;iterate 2(refine wW λK hK=>?_;go_simp;apply hK;clear hK K)
   go_wp2;go_ret;refine⟨g,rfl,R,?_⟩;have h9:=HST.out;rw[HE.out] at h9;exact h9.base K1.out
theorem Mine.later14 {B:Nat->Prop}{w w1:World}{lv pv:Value}{L:List Lf}{P:List Pr}{SL:List Value}(h:Mine B w lv pv L P SL)(k:Kept w.heap.size w.heap.size w w1):Mine (λi=>B i\/(w.heap.size<=i/\i<w1.heap.size)) w1 lv pv L P SL:=
 { (h.kept k) with
   ol:=λg e b=>b.elim (h.ol g e) (λe2=>by have:=(h.lo.2.lt g e).2;omega)
   op:=λg e b=>b.elim (h.op g e) (λe2=>by have:=(h.po.2.lt g e).2;omega)
   os:=λs hs g e b=>b.elim (h.os s hs g e) (λe2=>by
    obtain⟨i,hi,rfl⟩:=List.getElem_of_mem hs;have hp:i<P.length:=by rw[<-h.len];exact hi
    have:=(World.ownsRow.lt (h.so i P[i] SL[i] (List.getElem?_eq_getElem hp) (List.getElem?_eq_getElem hi)) g e).2
    omega)
   bnd:=λi b=>b.elim (λb=>zC (h.bnd i b) k.size) (λe=>e.2) }
def EraNew (w w':World)(eb:Nat)(f:Fm)(L:List Lf)(P:List Pr)(me:Int)(j cc:List UInt8):Prop:=
 ∃(lo:Nat) (lv pv:Value) (ib:Nat) (sl:Value) (g:Nat) (R:List (Option Nat)),
  w'.heap[eb]?=some (.cells (ecells (f.cells lv pv) me (.slice none 0 0) (.pointer (some ⟨ib,0,none⟩)) 0 (.slice (some ⟨g,0,none⟩) L.length L.length) 0 (Ky.key j cc 6)).toArray 97 (0,0)) /\
  Kept w.heap.size w.heap.size w w'/\(w.heap.size<=lo/\lo<=ib/\ib<g/\g<eb) /\
  (∃SL,Mine (λi=>i<w.heap.size\/(lo<=i/\i<w'.heap.size)) w' lv pv L P SL) /\
  RowIs w' ib 32 sl [⟨0,0,Ky.key j cc 3⟩]/\(∀k,sl.ownBlock=some k->lo<=k/\k<ib) /\
  ApSt w w' g L.length L.length (λi=>[⟨0,0,Ky.app (Ky.key j cc 5) i⟩]) L R/\∀(i rb:Nat),R[i]?=some (some rb)->rb<eb
theorem Qs4 (f:Fm)(hf:f.Ok)(lv pv:Value)(L:List Lf)(P:List Pr)(me:Int)(j cc:List UInt8)(hj:j.length=32)(w:World)(tab:Tab w)(hL:Lvs w lv L)(hP:Pts w pv P)(hpl:∀p∈P,p.loose.length<=1000)(hok:Er.frameOk L P f.depth f.ts=true)(hme:¬Tt.place L P me<0):
  Calls Tryz.prog 38 #[.pointer none,.agg (f.cells lv pv).toArray,.int .i64 me,.slice none 0 0,.agg (bY (Ky.secs j cc)).toArray] w λe w'=>∃eb,e=.returned (.tuple #[.pointer (some ⟨eb,0,none⟩),.int .i64 0])/\EraNew w w' eb f L P me j cc:=by
 have hrt:Tt.right L P=true:=by
  cases h:Tt.right L P
  ·rw[Er.frameOk,h] at hok;cases hok
  ·rfl
 obtain⟨h64,hpn9,_⟩:=Tt.right_parts hrt;have hn9:L.length<=1000:=by omega
 have hp9:P.length<=1000:=by omega
 have HRF:=hid (λ(x:World) (k:Kept w.heap.size w.heap.size w x)=>Qh9 f hf lv pv L P x (hL.kept k) (hP.kept k) hn9 hp9 hpl)
 rw[hok] at HRF;have HPL:=hid (λ(x:World) (k:Kept w.heap.size w.heap.size w x)=>Qc0 lv pv L P me x (hL.kept k) (hP.kept k) hn9 hp9 hpl)
 have HCP:=hid (λ(x:World) (k:Kept w.heap.size w.heap.size w x)=>Qjt lv pv L P x (hL.kept k) (hP.kept k) hn9 hp9 hpl)
 have HKP:=hid (λ(lv pv:Value) (x:World) (hL:Lvs x lv L) (hP:Pts x pv P)=>Qpg lv pv L P x hL hP hn9 hp9 hpl)
 have HHX:=hid (λ(x:World)=>Qnl f.id hf.1 x)
 have HNM:=hid (λ(s:ByteArray) (l:List UInt8) (x:World)=>Qk1 s l x)
 have HNR:=hid (λ(x:World)=>Qgl (Ky.key j cc 3) (Ky.key_length hj _ _) 32 (by decide) (by decide) x)
 have HNA:=hid (λ(lv:Value) (x:World) (tab:Tab x) (hL:Lvs x lv L)=>Ql0 (Ky.key j cc 5) (Ky.key_length hj _ _) lv L x tab hL h64)
 have HBE:=hid (λ(la pa:Option Addr) (ln lc pn pc an:Nat) (ip g:Nat) (x:World)=>Qvc f hf la pa none (some ⟨g,0,none⟩) ln lc pn pc 0 0 an an me (some ⟨ip,0,none⟩) (Ky.key j cc 6) (Ky.key_length hj _ _) x)
 have HLS:=hid (λ(u:World) (b:Nat) (h:u.heap[b]?=some (.cells (bY (Ky.secs j cc)).toArray 86 (0,0))) (i:Nat) (v:List UInt8) (hv:(Ky.st j cc 6)[i]?=some v)=>Qqt (Ky.st_all hj cc 6) h i v hv)
 have HLF:=hid (λ(u:World) (b:Nat) (lv pv:Value) (h:u.heap[b]?=some (.cells (f.cells lv pv).toArray 84 (0,0)))=>run_loadVar_row u b 84 84 _ (0,0) _ h Tryz.underlying84 rfl (frameInfo (Fm.size hf lv pv)))
 have HLT:=hid (λ(u:World) (b:Nat) (lv pv:Value) (h:u.heap[b]?=some (.cells (f.cells lv pv).toArray 84 (0,0)))=>Qdm (Fm.at_tree (Qam h) hf))
 have HLI:=hid (λ(u:World) (b:Nat) (lv pv:Value) (h:u.heap[b]?=some (.cells (f.cells lv pv).toArray 84 (0,0)))=>Qb3 (Fm.at_id (Qam h)) hf.1)
 have HLV:=hid (λ(u:World) (b:Nat) (lv pv:Value) (h:u.heap[b]?=some (.cells (f.cells lv pv).toArray 84 (0,0)))=>Fm.at_lv (Qam h) hf)
 simp only[Nat.zero_add] at HLT HLI HLV;have HTH:=hid (λ(u:World) (b:Nat) (lv pv:Value) (h:u.heap[b]?=some (.cells (f.cells lv pv).toArray 84 (0,0)))=>Qeg h (o:=65) (n:=2) (by rw[Fm.cells_length hf];decide))
 have HST:=hid (λ(lv pv lv' pv':Value)=>Fm.set_tree hf lv pv lv' pv')
 have HLP:=hid hP;have HLL:=hid hL;obtain⟨lad,lc,rfl⟩:=hL.shape;obtain⟨pad,pc,rfl⟩:=hP.shape;have HTB:=hid tab;have HHL:=hid (show(Sm.hex f.id).length<=64 by rw[Qjl,hf.1];decide)
 obtain⟨hx,hhx⟩:∃x,x=Sm.hex f.id:=⟨_,rfl⟩;rw[<-hhx] at HHX HHL;obtain⟨SR,hSR⟩:∃x,x=(bY (Ky.secs j cc)).toArray:=⟨_,rfl⟩;rw[<-hSR] at HLS |-;obtain⟨ln,hln⟩:∃x,x=L.length:=⟨_,rfl⟩;obtain⟨pn,hpn⟩:∃x,x=P.length:=⟨_,rfl⟩;rw[<-hln,<-hpn] at HRF HPL HCP;rw[<-hln] at HNA;rw[<-hln,<-hpn];obtain⟨FR,hFR⟩:∃x,x=(f.cells (.slice lad ln lc) (.slice pad pn pc)).toArray:=⟨_,rfl⟩;rw[<-hFR] at HRF |-;have HIF:=hid (frameInfo (Fm.size hf (.slice lad ln lc) (.slice pad pn pc)));rw[<-hFR] at HIF;have HFR:=hid hFR;have HLN:=hid hln;have HPN:=hid hpn;have hpd:¬(Tt.place L P me)<0:=hme;obtain⟨pm,hpm⟩:∃x,x=Tt.place L P me:=⟨_,rfl⟩;rw[<-hpm] at HPL hpd;clear hf hL hP hpl hok hme hrt h64 hpn9 hn9 hp9 hhx hSR hln hpn hFR hpm hj tab
 go_enter Tryz.func38,Tryz.ntmps38
 go_upto_region 0 with fail
 refine zA ?_;iterate 4(refine wW λK hK=>?_;go_simp;apply hK;clear hK K)
 have kn:Kept w.heap.size w.heap.size w ((w.alloc (.cells FR 84)).alloc (.cells SR 86)):=(zI.alloc (zB _) _).alloc (by simp) _
 have rf:((w.alloc (.cells FR 84)).alloc (.cells SR 86)).heap[w.heap.size]?=some (.cells FR 84 (0,0)):=by
  rw[heap_alloc_old _ _ (by simp)]
  exact Qaa _ _
 have rs:=Qaa (w.alloc (.cells FR 84)) (.cells SR 86)
 have hs1:(w.alloc (.cells FR 84)).heap.size=w.heap.size+1:=by simp
 rw[hs1] at rs
 (try rw[hs1])
 generalize (w.alloc (.cells FR 84)).alloc (.cells SR 86)=w2 at kn rf rs |-
 clear hs1;obtain⟨fb,hfb⟩:∃x,x=w.heap.size:=⟨_,rfl⟩;obtain⟨sb,hsb⟩:∃x,x=w.heap.size+1:=⟨_,rfl⟩;rw[<-hsb] at rs
 (try rw[<-hsb])
 rw[<-hfb] at rf
 (try rw[<-hfb])
 have HFB:=hid (show w.heap.size<=fb/\fb≠sb by omega)
 have RF:=hid rf;have RS:=hid rs;have K2:=hid kn;clear hfb hsb kn rf rs;have LF1:=hid (run_loadVar_row w2 fb 84 84 _ (0,0) _ RF.out Tryz.underlying84 rfl HIF.out)
 have RF9:=hid (λ(x:World) (k:Kept w2.heap.size w2.heap.size w2 x)=>(show x.heap[fb]?=some (.cells (f.cells (.slice lad ln lc) (.slice pad pn pc)).toArray 84 (0,0)) from by rw[<-HFR.out];exact rK RF.out k))
 have HFL:=hid (show fb<w2.heap.size from zF RF.out)
 go_upto_region 1 with fail
 refine zA ?_;refine wLk 84 (.tmp 6) rfl (fb) (0) rfl (.agg FR) (LF1.out) ?_
 simp only[Act.put,sA,sB,sC];refine wW λK hK=>?_;go_simp;go_at_call 65
 refine(HRF.out _ K2.out).mono ?_;rintro e w3 ⟨rfl,k3⟩;have K3:=hid k3;clear k3;apply hK;clear hK K;refine wW λK hK=>?_;go_simp;apply hK;clear hK K
 go_upto_region 3 with fail
 refine zA ?_;refine wW λK hK=>?_;go_simp;apply hK;clear hK K;refine wLk 45 (.tmp 15) rfl (fb) (65) rfl (.agg #[.slice lad ln lc,.slice pad pn pc]) (HLT.out _ _ _ _ (RF9.out _ K3.out)) ?_
 simp only[Act.put,sA,sB,sC];refine wW λK hK=>?_;go_simp;apply hK;clear hK K;refine wW λK hK=>?_;go_simp;go_at_call 49
 refine(HPL.out _ (K2.out.onto K3.out)).mono ?_;rintro e w4 ⟨rfl,k4⟩;have K4:=hid (K3.out.onto k4);clear k4;apply hK;clear hK K;refine wW λK hK=>?_;go_simp;apply hK;clear hK K
 go_upto_region 5 with fail
 refine zA ?_;refine wW λK hK=>?_;go_simp;apply hK;clear hK K;refine wLk 45 (.tmp 20) rfl (fb) (65) rfl (.agg #[.slice lad ln lc,.slice pad pn pc]) (HLT.out _ _ _ _ (RF9.out _ K4.out)) ?_
 simp only[Act.put,sA,sB,sC];refine wW λK hK=>?_;go_simp;go_at_call 66
 refine(HCP.out _ (K2.out.onto K4.out)).mono ?_;rintro e w5 ⟨nlv,npv,rfl,k5,SL,m5⟩;obtain⟨nlad,nlc,hnl⟩:=m5.lvs.shape;obtain⟨npad,npc,hnp⟩:=m5.pts.shape;rw[<-HLN.out] at hnl;rw[<-HPN.out] at hnp;subst hnl;subst hnp;have hf4:fb<w4.heap.size:=zC HFL.out K4.out.size;have rf5:=RF9.out _ (K4.out.onto k5);have RF5:=hid rf5;have g6:=Qbb w5 fb 65 (.slice nlad ln nlc);have g7:=Qbb (w5.setCell ⟨fb,65,none⟩ (.slice nlad ln nlc)) fb 66 (.slice npad pn npc);have m6:=(m5.aside (b:=fb) hf4 g6).aside (b:=fb) hf4 g7;have k6:=(((K2.out.onto K4.out).onto k5).grown g6 ((K2.out.onto K4.out).onto k5).size (λk e=>by cases e;exact HFB.out.1))
 have k7:=k6.grown g7 k6.size (λk e=>by cases e;exact HFB.out.1)
 have r7:=Qaj (Qaj rf5 65 (.slice nlad ln nlc)) 66 (.slice npad pn npc);rw[HST.out] at r7;have rs5:=rK RS.out (K4.out.onto k5);have hsb6:sb≠fb:=λe=>HFB.out.2 e.symm
 have rs7:=(g7.block sb (zC (zF rs5) g6.size) (λe=>hsb6 (Option.some.inj e))).trans ((g6.block sb (zF rs5) (λe=>hsb6 (Option.some.inj e))).trans rs5)
 rw[show(w5.setCell ⟨fb,65,none⟩ (.slice nlad ln nlc)).setCell ⟨fb,66,none⟩ (.slice npad pn npc)=w5.setCells fb 65 [.slice nlad ln nlc,.slice npad pn npc] from rfl] at m6 k7 r7 rs7;have M7:=hid (m6.mono (B':=λk=>k<w.heap.size) (λk h=>zC h (K2.out.onto K4.out).size))
 have K7:=hid k7;have R7:=hid r7;have S7:=hid rs7;clear k5 m5 hf4 rf5 g6 g7 m6 k6 k7 r7 rs5 hsb6 rs7;apply hK;clear hK K;refine wW λK hK=>?_;go_simp;apply hK;clear hK K;refine @Qee _ _ _ _ _ _ _ ?_ 45 _ _ rfl fb 65 #[.slice nlad ln nlc,.slice npad pn npc] rfl rfl (HTH.out _ _ _ _ RF5.out) treeInfo (Qef _ _ _ _ _ _) ?_;kernel_rfl
 simp only[Act.put]
 (try simp only[List.toList_toArray])
 generalize w5.setCells fb 65 [.slice nlad ln nlc,.slice npad pn npc]=w7 at M7 K7 R7 S7 |-;clear RF5;obtain⟨FR2,hFR2⟩:∃x,x=(f.cells (.slice nlad ln nlc) (.slice npad pn npc)).toArray:=⟨_,rfl⟩;obtain⟨KF,hKF⟩:∃x,x=(bY f.id).toArray:=⟨_,rfl⟩;obtain⟨KE,hKE⟩:∃x,x=(bY (Ky.key j cc 2)).toArray:=⟨_,rfl⟩;obtain⟨KI,hKI⟩:∃x,x=(bY (Ky.key j cc 3)).toArray:=⟨_,rfl⟩;obtain⟨KA,hKA⟩:∃x,x=(bY (Ky.key j cc 5)).toArray:=⟨_,rfl⟩;obtain⟨KX,hKX⟩:∃x,x=(bY (Ky.key j cc 6)).toArray:=⟨_,rfl⟩;have LI:=hid (λ(x:World) (k:Kept w7.heap.size w7.heap.size w7 x)=>HLI.out x fb _ _ (rK R7.out k))
 have LE:=hid (λ(x:World) (k:Kept w7.heap.size w7.heap.size w7 x)=>(show(loadVar 23 ⟨sb,64,none⟩).run Tryz.prog x=.ok (.agg (bY (Ky.key j cc 2)).toArray) x from HLS.out x sb (rK S7.out k) 2 _ rfl))
 have LN:=hid (λ(x:World) (k:Kept w7.heap.size w7.heap.size w7 x)=>(show(loadVar 23 ⟨sb,96,none⟩).run Tryz.prog x=.ok (.agg (bY (Ky.key j cc 3)).toArray) x from HLS.out x sb (rK S7.out k) 3 _ rfl))
 have LA:=hid (λ(x:World) (k:Kept w7.heap.size w7.heap.size w7 x)=>(show(loadVar 23 ⟨sb,160,none⟩).run Tryz.prog x=.ok (.agg (bY (Ky.key j cc 5)).toArray) x from HLS.out x sb (rK S7.out k) 5 _ rfl))
 have LX:=hid (λ(x:World) (k:Kept w7.heap.size w7.heap.size w7 x)=>(show(loadVar 23 ⟨sb,192,none⟩).run Tryz.prog x=.ok (.agg (bY (Ky.key j cc 6)).toArray) x from HLS.out x sb (rK S7.out k) 6 _ rfl))
 have LF:=hid (λ(x:World) (k:Kept w7.heap.size w7.heap.size w7 x)=>HLF.out x fb _ _ (rK R7.out k))
 have LT:=hid (λ(x:World) (k:Kept w7.heap.size w7.heap.size w7 x)=>HLT.out x fb _ _ (rK R7.out k))
 have LV:=hid (λ(x:World) (k:Kept w7.heap.size w7.heap.size w7 x)=>Qde (d:=.int .u8) (HLV.out x fb _ _ (rK R7.out k)) (.inl rfl) rfl)
 have HKN:=hid (λ(l:List UInt8) (s:ByteArray) (x:World)=>HNM.out s l x)
 have HNM2:=hid (λ(s:ByteArray) (x:World)=>HNM.out s (Ky.key j cc 2) x)
 have hbe:=λ(ip g:Nat) (x:World)=>HBE.out nlad npad ln nlc pn npc ln ip g x
 rw[<-hFR2] at hbe LF;rw[<-hKX] at hbe LX;rw[<-hKF] at LI HHX;rw[<-hKE] at LE HNM2;rw[<-hKI] at LN HNR;rw[<-hKA] at LA HNA;have HBE2:=hid hbe;have HXC:=hid (show ¬9223372036854775807<6+hx.length by have:=HHL.out;omega)
 clear hFR2 hKF hKE hKI hKA hKX hbe HNM HBE HLI HLF HLT HLV HLS HKN
 go_upto_region 6 with fail
 refine wp_region_noPanic ?_;refine wp_region_held_drew (S:=λw'=>Kept w7.heap.size w7.heap.size w7 w') (by kernel_rfl) (zI.drew) (λhH=>?_)
 refine tkE (i:=0) 24 rfl hH ?_
 apply zH
 ·intro w9 _
  go_simp
  first|done|rfl
 simp only[sA,sB,sC];refine tkE (i:=1) 25 rfl hH ?_
 apply zH
 ·intro w9 _
  go_simp
  first|done|rfl
 simp only[sA,sB,sC];refine tkA (i:=2) 26 (.agg KF) rfl (yK (by kernel_rfl) 23 _ rfl (fb) (0) rfl (.agg KF) (LI.out)) hH ?_
 simp only[sA,sB,sC];refine tkE (i:=5) 29 rfl hH ?_
 apply zH
 ·intro w9 _
  go_simp
  first|done|rfl
 simp only[sA,sB,sC];refine tkA (i:=6) 30 (.agg KE) rfl (yK (by kernel_rfl) 23 _ rfl (sb) (64) rfl (.agg KE) (LE.out)) hH ?_
 simp only[sA,sB,sC];refine wpAnyH_ready (rs:=[3]) (by kernel_rfl) (by simp) ?_
 refine AllReadyH.cons rfl (λK hK=>?_) AllReadyH.nil
 rw[zG (by rfl)]
 go_simp
 go_wp2_with (go_at_call 31;refine(HHX.out _).mono ?_;rintro e x1 ⟨rfl,kx1⟩)
 have X1:Kept w7.heap.size w7.heap.size w7 x1:=(Kept.refl w7.heap.size w7.heap.size w7).drew.trans (kx1.mono (Kept.refl w7.heap.size w7.heap.size w7).drew.size (λi hi _=>zD (zC hi (Kept.refl w7.heap.size w7.heap.size w7).drew.size)))
 refine hK.out _ _ (X1) (λhH=>?_)
 clear hK K;refine tkE (i:=4) 28 rfl hH ?_
 apply zH
 ·intro w9 _
  go_simp;rw[if_neg HXC.out]
  first|done|rfl
 simp only[sA,sB,sC];refine wpAnyH_ready (rs:=[7]) (by kernel_rfl) (by simp) ?_
 refine AllReadyH.cons rfl (λK hK=>?_) AllReadyH.nil
 rw[zG (by rfl)]
 go_simp
 go_wp2_with (go_at_call 47;refine(HNM2.out _ _).mono ?_;rintro e x2 ⟨rfl,kx2⟩)
 have X2:Kept w7.heap.size w7.heap.size w7 x2:=X1.trans (kx2.mono X1.size (λi hi _=>zD (zC hi X1.size)))
 refine hK.out _ _ (X2) (λhH=>?_)
 clear hK K;refine wpAnyH_done (by kernel_rfl) ?_ _
 refine NoPanic.normal ?_;have KY:=hid X2;clear X1 X2;have TB2:=hid (HTB.out.onto11 (K7.out.onto KY.out))
 go_upto_region 7 with fail
 refine wp_region_noPanic ?_;refine wp_region_held_drew (S:=λw'=>Kept x2.heap.size x2.heap.size x2 w') (by kernel_rfl) (zI.drew) (λhH=>?_)
 refine tkA (i:=0) 32 (.agg FR2) rfl (yK (by kernel_rfl) 84 _ rfl (fb) (0) rfl (.agg FR2) (λx k=>LF.out x (KY.out.onto k))) hH ?_
 simp only[sA,sB,sC];refine tkE (i:=1) 33 rfl hH ?_
 apply zH
 ·intro w9 _
  go_simp
  first|done|rfl
 simp only[sA,sB,sC];refine tkE (i:=2) 34 rfl hH ?_
 apply zH
 ·intro w9 _
  go_simp
  first|done|rfl
 simp only[sA,sB,sC];refine tkA (i:=3) 35 (.agg #[.slice nlad ln nlc,.slice npad pn npc]) rfl (yK (by kernel_rfl) 45 _ rfl (fb) (65) rfl (.agg #[.slice nlad ln nlc,.slice npad pn npc]) (λx k=>LT.out x (KY.out.onto k))) hH ?_
 simp only[sA,sB,sC];refine tkE (i:=4) 36 rfl hH ?_
 apply zH
 ·intro w9 _
  go_simp
  first|done|rfl
 simp only[sA,sB,sC];refine tkE (i:=6) 38 rfl hH ?_
 apply zH
 ·intro w9 _
  go_simp
  first|done|rfl
 simp only[sA,sB,sC];refine tkA (i:=7) 39 (.agg KI) rfl (yK (by kernel_rfl) 23 _ rfl (sb) (96) rfl (.agg KI) (λx k=>LN.out x (KY.out.onto k))) hH ?_
 simp only[sA,sB,sC];refine tkE (i:=9) 41 rfl hH ?_
 apply zH
 ·intro w9 _
  go_simp
  first|done|rfl
 simp only[sA,sB,sC];refine tkE (i:=10) 42 rfl hH ?_
 apply zH
 ·intro w9 _
  go_simp
  first|done|rfl
 simp only[sA,sB,sC];refine tkE (i:=11) 43 rfl hH ?_
 apply zH
 ·intro w9 _
  go_simp
  first|done|rfl
 simp only[sA,sB,sC];refine tkA (i:=12) 44 (.slice nlad ln nlc) rfl (yK (by kernel_rfl) 42 _ rfl (fb) (65) rfl (.slice nlad ln nlc) (λx k=>LV.out x (KY.out.onto k))) hH ?_
 simp only[sA,sB,sC];refine tkE (i:=13) 45 rfl hH ?_
 apply zH
 ·intro w9 _
  go_simp
  first|done|rfl
 simp only[sA,sB,sC];refine tkA (i:=14) 46 (.agg KA) rfl (yK (by kernel_rfl) 23 _ rfl (sb) (160) rfl (.agg KA) (λx k=>LA.out x (KY.out.onto k))) hH ?_
 simp only[sA,sB,sC];refine tkE (i:=16) 48 rfl hH ?_
 apply zH
 ·intro w9 _
  go_simp
  first|done|rfl
 simp only[sA,sB,sC];refine tkA (i:=17) 49 (.agg KX) rfl (yK (by kernel_rfl) 23 _ rfl (sb) (192) rfl (.agg KX) (λx k=>LX.out x (KY.out.onto k))) hH ?_
 simp only[sA,sB,sC];refine wpAnyH_ready (rs:=[5]) (by kernel_rfl) (by simp) ?_
 refine AllReadyH.cons rfl (λK hK=>?_) AllReadyH.nil
 rw[zG (by rfl)]
 go_simp
 go_wp2_with (go_at_call 67;refine(HKP.out _ _ _ ((M7.out.kept KY.out).kept (Kept.refl x2.heap.size x2.heap.size x2).drew).lvs ((M7.out.kept KY.out).kept (Kept.refl x2.heap.size x2.heap.size x2).drew).pts).mono ?_;rintro e x3 ⟨rfl,kx3⟩)
 have Y3:Kept x2.heap.size x2.heap.size x2 x3:=(Kept.refl x2.heap.size x2.heap.size x2).drew.onto kx3;clear kx3;refine hK.out _ _ Y3 (λhH=>?_)
 clear hK K;refine wpAnyH_ready (rs:=[8]) (by kernel_rfl) (by simp) ?_
 refine AllReadyH.cons rfl (λK hK=>?_) AllReadyH.nil
 rw[zG (by rfl)]
 go_simp
 go_wp2_with (go_at_call 68;refine(HNR.out _).mono ?_;rintro e x4 ⟨ib,sl,rfl,hib,hri,kx4,hti⟩)
 have Y4:Kept x2.heap.size x2.heap.size x2 x4:=Y3.onto kx4;have HIB:=hid hib;have HRI:=hid hri;have HTI:=hid hti;clear hib hri hti kx4;refine hK.out _ _ Y4 (λhH=>?_)
 clear hK K;refine wpAnyH_ready (rs:=[15]) (by kernel_rfl) (by simp) ?_
 refine AllReadyH.cons rfl (λK hK=>?_) AllReadyH.nil
 rw[zG (by rfl)]
 go_simp
 go_wp2_with (go_at_call 69;refine(HNA.out _ _ (TB2.out.onto11 Y4) ((M7.out.kept KY.out).kept Y4).lvs).mono ?_;rintro e x5 ⟨g,rfl,R,hap⟩)
 have Y5:Kept x2.heap.size x2.heap.size x2 x5:=Y4.onto hap.k;have HAP:=hid hap;clear hap;refine hK.out _ _ Y5 (λhH=>?_)
 clear hK K;obtain⟨EC,hEC⟩:∃x,x=(ecells (f.cells (.slice nlad ln nlc) (.slice npad pn npc)) me (.slice none 0 0) (.pointer (some ⟨ib,0,none⟩)) 0 (.slice (some ⟨g,0,none⟩) ln ln) 0 (Ky.key j cc 6)).toArray:=⟨_,rfl⟩;have HB9:=hid (λx=>HBE2.out ib g x)
 rw[<-hEC] at HB9;have HEC:=hid hEC;clear hEC;refine tkA (i:=18) 50 (.agg EC) rfl (Qa4 (by kernel_rfl) 97 _ rfl #[(0,.agg FR2),(1,.int .i64 me),(2,.slice none 0 0),(3,.pointer (some ⟨ib,0,none⟩)),(5,.slice (some ⟨g,0,none⟩) ln ln),(7,.agg KX)] (by kernel_rfl) _ HB9.out) hH ?_
 simp only[sA,sB,sC];refine wpAnyH_ready (rs:=[19]) (by kernel_rfl) (by simp) ?_
 refine AllReadyH.cons rfl (λK hK=>?_) AllReadyH.nil
 rw[zG (by rfl)]
 go_simp;have ky5:Kept x2.heap.size x2.heap.size x2 (x5.alloc (.cells EC 97)):=Y5.alloc Y5.size _
 have hne:=Qaa x5 (.cells EC 97)
 have HFIN:=hid (show EraNew w (x5.alloc (.cells EC 97)) x5.heap.size f L P me j cc from by
  have kk5:Kept x5.heap.size x5.heap.size x5 (x5.alloc (.cells EC 97)):=zI.alloc (zB _) _
  have m9:=(M7.out.kept KY.out).later14 ky5;have ap9:=HAP.out.kept kk5;have hib:=zF HRI.out.1;refine⟨x2.heap.size,_,_,ib,sl,g,R,?_,K7.out.onto (KY.out.onto ky5),⟨(K7.out.onto KY.out).size,Nat.le_trans Y3.size HIB.out,?_,?_⟩,⟨SL,m9⟩,(HRI.out.kept HAP.out.k).kept kk5,λk e=>⟨Nat.le_trans Y3.size (HTI.out k e).1,(HTI.out k e).2⟩,?_,?_⟩
  ·rw[hne,HEC.out,HLN.out]
  ·exact zC hib HAP.out.gb
  ·exact HAP.out.lt
  ·rw[<-HLN.out]
   exact ap9.base (K7.out.onto (KY.out.onto Y4))
  ·intro i rb hr
   obtain⟨_,_,h9,_⟩:=HAP.out.row i rb hr
   exact zF h9.1)
 refine hK.out _ _ ky5 (λhH=>?_)
 clear hK K ky5 hne;refine tkE (i:=20) 10 rfl hH ?_
 apply zH
 ·intro w9 _
  go_simp
  first|done|rfl
 simp only[sA,sB,sC];refine tkE (i:=21) 11 rfl hH ?_
 apply zH
 ·intro w9 _
  go_simp
  first|done|rfl
 simp only[sA,sB,sC];refine wpAnyH_done (by kernel_rfl) ?_ _
 refine NoPanic.normal ?_;go_wp2;refine bodyPost_ret (results_tmp2 rfl _ _ _) rfl ?_;exact⟨_,rfl,HFIN.out⟩
end Go.Proofs.YtnlbgggnpoeleaaGreatDoor
