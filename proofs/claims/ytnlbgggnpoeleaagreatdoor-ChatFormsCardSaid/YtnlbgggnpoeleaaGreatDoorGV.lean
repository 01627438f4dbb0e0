/-
 WireMath; WireMem; WireWriter; WireNum; WireText; WireTake; WireRNum; WireRText; WireRHash; WireRef: several texts in one.
-/
import Derived.Test.YtnlbgggnpoeleaaGreatDoorGA
import Derived.WalkSpells
import Derived.Outline
import Derived.Laws.BytesArg
import Derived.Lib.Hide
import Derived.Laws.CopyOwn
set_option maxHeartbeats 800000
set_option maxRecDepth 100000
namespace Go.Proofs.YtnlbgggnpoeleaaGreatDoor.Wm
def be (m:Nat):Nat->List UInt8
 | 0=>[]
 | k+1=>UInt8.ofNat (m/256 ^ k)::be m k
theorem be_length (m:Nat):∀k,(be m k).length=k
 | 0=>rfl
 | k+1=>by rw[be,List.length_cons,be_length m k]
def enc (n:Nat):List UInt8:=
 if n<64 then be n 1 else if n<16384 then be (16384+n) 2 else if n<1073741824 then be (2147483648+n) 4 else be (13835058055282163712+n) 8
theorem enc_length_le (n:Nat):(enc n).length<=8:=by
 unfold enc
 split
 ·rw[be_length];omega
 ·split
  ·rw[be_length];omega
  ·split
   ·rw[be_length];omega
   ·rw[be_length];omega
def valOf (acc:Nat)(l:List UInt8):Nat:=l.foldl (λn b=>n*256+b.toNat) acc
theorem Qc9 (acc:Nat)(b:UInt8)(l:List UInt8):valOf acc (b::l)=valOf (acc*256+b.toNat) l:=rfl
theorem valOf_snoc (acc:Nat)(l:List UInt8)(b:UInt8):valOf acc (l++[b])=valOf acc l*256+b.toNat:=by
 unfold valOf;rw[List.foldl_append];rfl
theorem valOf_eq (l:List UInt8):∀acc,valOf acc l=acc*256 ^ l.length+valOf 0 l:=by
 induction l with
 | nil=>intro acc;simp[valOf]
 | cons b t ih=>
  intro acc;rw[Qc9,Qc9,ih,ih (0*256+b.toNat),List.length_cons,Nat.pow_succ,Nat.add_mul,Nat.zero_mul,Nat.zero_add,Nat.add_assoc,Nat.mul_assoc,Nat.mul_comm 256 (256 ^ t.length)]
theorem valOf_lt (l:List UInt8):valOf 0 l<256 ^ l.length:=by
 induction l with
 | nil=>simp[valOf]
 | cons b t ih=>
  rw[Qc9,valOf_eq,List.length_cons,Nat.pow_succ];have hb:b.toNat<256:=b.toNat_lt;have h1:b.toNat*256 ^ t.length<=255*256 ^ t.length:=Nat.mul_le_mul_right _ (by omega)
  rw[Nat.zero_mul,Nat.zero_add]
  omega
theorem Qwv (l:List UInt8):∀acc,be (valOf acc l) l.length=l:=by
 induction l with
 | nil=>intro acc;rfl
 | cons b t ih=>
  intro acc;have hp:0<256 ^ t.length:=Nat.pow_pos (by decide)
  rw[List.length_cons,be,Qc9,ih]
  congr 1
  rw[valOf_eq];have hlt:=valOf_lt t
  have e:((acc*256+b.toNat)*256 ^ t.length+valOf 0 t)/256 ^ t.length=acc*256+b.toNat:=by
   rw[Nat.add_comm,Nat.add_mul_div_right _ _ hp,Nat.div_eq_of_lt hlt,Nat.zero_add]
  rw[e];apply UInt8.toNat_inj.1;rw[UInt8.toNat_ofNat'];have hb:b.toNat<256:=b.toNat_lt
  omega
theorem Qvr (m:Nat):∀k acc,valOf acc (be m k)=acc*256 ^ k+m%256 ^ k:=by
 intro k
 induction k with
 | zero=>intro acc;simp[be,valOf,Nat.mod_one]
 | succ k ih=>
  intro acc;have e:m%(256 ^ k*256)=m%256 ^ k+256 ^ k*(m/256 ^ k%256):=Nat.mod_mul;have e2:(UInt8.ofNat (m/256 ^ k)).toNat=m/256 ^ k%256:=UInt8.toNat_ofNat';rw[be,Qc9,ih,e2,Nat.pow_succ,e,Nat.add_mul,Nat.mul_assoc,Nat.mul_comm 256 (256 ^ k),Nat.mul_comm (m/256 ^ k%256)]
  omega
def bnd:Nat->Nat
 | 0=>63
 | 1=>16383
 | 2=>1073741823
 | _=>4611686018427387903
def more (f:UInt8):Nat:=2 ^ (f.toNat/64)-1
def nval (f:UInt8)(t:List UInt8):Nat:=valOf (f.toNat%64) (t.take (more f))
theorem Qx0 (f:UInt8):f.toNat/64<4:=by have:=f.toNat_lt;omega
theorem Qno (f:UInt8):f.toNat/64=0\/f.toNat/64=1\/f.toNat/64=2\/f.toNat/64=3:=by have:=Qx0 f;omega
theorem more_cases (f:UInt8):(f.toNat/64=0/\more f=0)\/(f.toNat/64=1/\more f=1)\/(f.toNat/64=2/\more f=3)\/(f.toNat/64=3/\more f=7):=by
 rcases Qno f with h|h|h|h <;> simp[more,h]
theorem Quc (f:UInt8)(t:List UInt8)(h:more f<=t.length):nval f t=f.toNat%64*256 ^ more f+valOf 0 (t.take (more f)):=by
 rw[nval,valOf_eq,List.length_take,Nat.min_eq_left h]
theorem Qxh (f:UInt8)(t:List UInt8)(h:more f<=t.length):nval f t<64*256 ^ more f:=by
 rw[Quc f t h];have h1:f.toNat%64<=63:=by omega
 have h2:=valOf_lt (t.take (more f));rw[List.length_take,Nat.min_eq_left h] at h2;have h3:f.toNat%64*256 ^ more f<=63*256 ^ more f:=Nat.mul_le_mul_right _ h1
 omega
theorem Qub (f:UInt8)(t:List UInt8)(h:more f<=t.length):nval f t<=bnd (f.toNat/64):=by
 have hl:=Qxh f t h
 rcases more_cases f with⟨a,b⟩|⟨a,b⟩|⟨a,b⟩|⟨a,b⟩ <;> rw[b] at hl <;> rw[a] <;> simp only[bnd] <;> omega
theorem nval_max (f:UInt8)(t:List UInt8)(h:more f<=t.length):nval f t<=4611686018427387903:=by
 have:=Qub f t h
 rcases Qno f with a|a|a|a <;> rw[a] at this <;> simp only[bnd] at this <;> omega
def least (f:UInt8)(t:List UInt8):Bool:=decide (f.toNat/64=0\/bnd (f.toNat/64-1)<nval f t)
theorem enc_nval (f:UInt8)(t:List UInt8)(h:more f<=t.length)(hl:least f t=true):enc (nval f t)=f::t.take (more f):=by
 have hle:=Qub f t h;have hgt:f.toNat/64=0\/bnd (f.toNat/64-1)<nval f t:=by simpa [least] using hl
 have hf:=f.toNat_lt
 have hbe:be ((f.toNat/64*64)*256 ^ more f+nval f t) (more f+1)=f::t.take (more f):=by
  have e:(f.toNat/64*64)*256 ^ more f+nval f t=valOf 0 (f::t.take (more f)):=by
   have e3:f.toNat/64*64+f.toNat%64=f.toNat:=by omega
   rw[Qc9,valOf_eq,List.length_take,Nat.min_eq_left h,Quc f t h,<-Nat.add_assoc,<-Nat.add_mul,e3,Nat.zero_mul,Nat.zero_add]
  have hlen:(f::t.take (more f)).length=more f+1:=by rw[List.length_cons,List.length_take,Nat.min_eq_left h]
  rw[e,<-hlen,Qwv]
 rw[<-hbe];generalize nval f t=n at hle hgt |-
 rcases more_cases f with⟨a,b⟩|⟨a,b⟩|⟨a,b⟩|⟨a,b⟩ <;> rw[a] at hle hgt <;> simp only[bnd] at hle hgt <;> rw[a,b] <;> unfold enc
 ·refine(zG (by omega)).trans ?_
  have e0:0*64*256 ^ 0+n=n:=by omega
  rw[e0]
 ·rw[if_neg (by omega),zG (by omega)]
 ·rw[if_neg (by omega),if_neg (by omega),zG (by omega)]
 ·rw[if_neg (by omega),if_neg (by omega),if_neg (by omega)]
theorem Qs5 (n:Nat):(enc n).length=if n<64 then 1 else if n<16384 then 2 else if n<1073741824 then 4 else 8:=by
 unfold enc
 repeat' split
 all_goals rw[be_length]
theorem enc_nval_ne (f:UInt8)(t:List UInt8)(h:more f<=t.length)(hl:least f t=false):enc (nval f t)≠f::t.take (more f):=by
 intro e;have hgt:¬(f.toNat/64=0\/bnd (f.toNat/64-1)<nval f t):=by simpa [least] using hl
 have e2:=congrArg List.length e;rw[Qs5,List.length_cons,List.length_take,Nat.min_eq_left h] at e2;generalize nval f t=n at hgt e2
 rcases more_cases f with⟨a,b⟩|⟨a,b⟩|⟨a,b⟩|⟨a,b⟩
 ·exact hgt (Or.inl a)
 all_goals
  have hle:n<=bnd (f.toNat/64-1):=by omega
  rw[a] at hle;simp only[bnd] at hle;rw[b] at e2
  (repeat' split at e2) <;> omega
theorem Qwt (n:Nat)(hn:n<=4611686018427387903):∃f t,enc n=f::t/\t.length=more f/\(∀r,nval f (t++r)=n)/\(∀r,least f (t++r)=true):=by
 have key:∀(k hd base:Nat),k=2 ^ hd-1->hd<4->base=hd*64*256 ^ k->n<64*256 ^ k->(hd=0\/bnd (hd-1)<n) ->
   ∃f t,be (base+n) (k+1)=f::t/\t.length=more f/\(∀r,nval f (t++r)=n)/\(∀r,least f (t++r)=true):=by
  intro k hd base hk hh hb hlt hbn;have hp:0<256 ^ k:=Nat.pow_pos (by decide)
  have hdiv:(base+n)/256 ^ k=hd*64+n/256 ^ k:=by
   rw[hb,Nat.add_comm,Nat.add_mul_div_right _ _ hp,Nat.add_comm]
  have hq:n/256 ^ k<64:=by rw[Nat.div_lt_iff_lt_mul hp];exact hlt
  have a1:∀q,q<64->(hd*64+q)%256=hd*64+q:=λq _=>by omega
  have a2:∀q,q<64->(hd*64+q)/64=hd:=λq _=>by omega
  have a3:∀q,q<64->(hd*64+q)%64=q:=λq _=>by omega
  have hf:(UInt8.ofNat ((base+n)/256 ^ k)).toNat=hd*64+n/256 ^ k:=by
   rw[UInt8.toNat_ofNat',hdiv];exact a1 _ hq
  have hfd:(UInt8.ofNat ((base+n)/256 ^ k)).toNat/64=hd:=by rw[hf];exact a2 _ hq
  have hfm:(UInt8.ofNat ((base+n)/256 ^ k)).toNat%64=n/256 ^ k:=by rw[hf];exact a3 _ hq
  have hmore:more (UInt8.ofNat ((base+n)/256 ^ k))=k:=by rw[more,hfd,hk]
  have hval:∀r,nval (UInt8.ofNat ((base+n)/256 ^ k)) (be (base+n) k++r)=n:=by
   intro r;rw[nval,hmore,List.take_left' (be_length _ _),Qvr,hfm,hb,Nat.add_comm (hd*64*256 ^ k),Nat.add_mul_mod_self_right,Nat.mul_comm];exact Nat.div_add_mod n (256 ^ k)
  refine⟨_,_,rfl,by rw[be_length,hmore],hval,λr=>?_⟩
  rw[least,hval,hfd]
  simpa using hbn
 unfold enc
 by_cases h1:n<64
 ·rw[zG h1]
  have:=key 0 0 0 rfl (by omega) rfl (by omega) (Or.inl rfl)
  rwa[Nat.zero_add] at this
 ·rw[if_neg h1]
  by_cases h2:n<16384
  ·rw[zG h2]
   exact key 1 1 16384 rfl (by omega) rfl (by omega) (Or.inr (by simp only[bnd];omega))
  ·rw[if_neg h2]
   by_cases h3:n<1073741824
   ·rw[zG h3]
    exact key 3 2 2147483648 rfl (by omega) rfl (by omega) (Or.inr (by simp only[bnd];omega))
   ·rw[if_neg h3]
    exact key 7 3 13835058055282163712 rfl (by omega) rfl (by omega) (Or.inr (by simp only[bnd];omega))
structure Got (α:Type) where
 val:α
 left:List UInt8
 err:Int
def rNum (l:List UInt8)(most:Int):Got Int:=
 match l with
 | []=>⟨0,[],2⟩
 | f::t=>if t.length<more f then⟨0,[],2⟩ else if least f t=false then⟨0,[],3⟩ else if most<nval f t then⟨0,[],5⟩ else⟨nval f t,t.drop (more f),0⟩
def rRaw (l:List UInt8)(n:Nat):Got (List UInt8):=if l.length<n then⟨[],[],2⟩ else⟨l.take n,l.drop n,0⟩
def rText (l:List UInt8)(most:Int):Got (List UInt8):=
 if(rNum l (min most 65536)).err=0 then rRaw (rNum l (min most 65536)).left (rNum l (min most 65536)).val.toNat else⟨[],[],(rNum l (min most 65536)).err⟩
def rFlag (l:List UInt8):Got Bool:=
 match l with
 | []=>⟨false,[],2⟩
 | f::t=>if 1<f.toNat then⟨false,[],3⟩ else⟨f.toNat == 1,t,0⟩
theorem rNum_val (l:List UInt8)(most:Int):0<=(rNum l most).val/\(rNum l most).val<=4611686018427387903:=by
 unfold rNum
 split
 ·exact⟨by decide,by decide⟩
 ·rename_i f t
  split
  ·exact⟨by decide,by decide⟩
  ·split
   ·exact⟨by decide,by decide⟩
   ·split
    ·exact⟨by decide,by decide⟩
    ·have:=nval_max f t (by omega)
     exact⟨by show(0:Int)<=(nval f t:Int);omega,by show(nval f t:Int)<=_;omega⟩
theorem rNum_fail (l:List UInt8)(most:Int)(h:(rNum l most).err≠0):(rNum l most).val=0/\(rNum l most).left=[]:=by
 revert h
 unfold rNum
 split
 ·simp
 ·split
  ·simp
  ·split
   ·simp
   ·split
    ·simp
    ·simp
theorem rNum_enc (n:Nat)(hn:n<=4611686018427387903)(r:List UInt8)(most:Int)(hm:(n:Int)<=most):rNum (enc n++r) most=⟨n,r,0⟩:=by
 obtain⟨f,t,he,hlen,hval,hleast⟩:=Qwt n hn;rw[he,List.cons_append,rNum,hval,hleast,if_neg (by rw[zE];omega),if_neg (by simp),if_neg (by omega),List.drop_left' hlen]
theorem enc_rNum (l:List UInt8)(most:Int)(h:(rNum l most).err=0):l=enc (rNum l most).val.toNat++(rNum l most).left:=by
 revert h
 unfold rNum
 split
 ·simp
 ·rename_i f t
  split
  ·simp
  ·split
   ·simp
   ·split
    ·simp
    ·intro _e
     rename_i h1 h2 _
     show f::t=enc ((nval f t:Int)).toNat++t.drop (more f);rw[Int.toNat_natCast,enc_nval f t (by omega) (by simpa using h2),List.cons_append,List.take_append_drop]
end Go.Proofs.YtnlbgggnpoeleaaGreatDoor.Wm
namespace Go.Proofs.YtnlbgggnpoeleaaGreatDoor
open Go.RowKit
structure Tab (w:World):Prop where
 c0:w.cell? ⟨0,0,none⟩=some (.int .i64 63)
 c1:w.cell? ⟨0,1,none⟩=some (.int .i64 16383)
 c2:w.cell? ⟨0,2,none⟩=some (.int .i64 1073741823)
 c3:w.cell? ⟨0,3,none⟩=some (.int .i64 4611686018427387903)
theorem Tab.lt {w:World}(h:Tab w):0<w.heap.size:=World.block_lt_of_cell? _ _ h.c0
theorem Tab.same {w w':World}(h:Tab w)(e:w'.heap[0]?=w.heap[0]?):Tab w':=
 ⟨(World.cell?_of_block (w:=w) e).trans h.c0,(World.cell?_of_block (w:=w) e).trans h.c1,(World.cell?_of_block (w:=w) e).trans h.c2,(World.cell?_of_block (w:=w) e).trans h.c3⟩
theorem Tab.kept {base b:Nat}{w w':World}(h:Tab w)(k:Kept base b w w')(h1:0<base)(h2:0<b):Tab w':=h.same (k.block 0 h1 (by omega))
theorem Tab.at {w:World}(h:Tab w)(k:Nat)(hk:k<4):w.cell? ⟨0,k,none⟩=some (.int .i64 (Wm.bnd k)):=by
 match k,hk with
 | 0,_=>exact h.c0
 | 1,_=>exact h.c1
 | 2,_=>exact h.c2
 | 3,_=>exact h.c3
structure WrOk (w:World) (base b:Nat) (l:List UInt8):Prop where
 lt:b<base
 le:base<=w.heap.size
 ex:∃a n c,w.heap[b]?=some (.cells #[.slice a n c,.bool false] 115 (0,0))/\w.ownsRow base 5 1 (.slice a n c) l.length (bY l)
structure WrBad (w:World) (base b:Nat):Prop where
 lt:b<base
 le:base<=w.heap.size
 ex:∃a n c,w.heap[b]?=some (.cells #[.slice a n c,.bool true] 115 (0,0))
def Wr (w:World)(base b:Nat):Option (List UInt8)->Prop
 | some l=>WrOk w base b l
 | none=>WrBad w base b
theorem Wr.lt {w:World}{base b:Nat}{st:Option (List UInt8)}(h:Wr w base b st):b<base:=by
 cases st
 ·exact WrBad.lt h
 ·exact WrOk.lt h
theorem Wr.le {w:World}{base b:Nat}{st:Option (List UInt8)}(h:Wr w base b st):base<=w.heap.size:=by
 cases st
 ·exact WrBad.le h
 ·exact WrOk.le h
theorem Wr.same {w w':World}{base b:Nat}{st:Option (List UInt8)}(h:Wr w base b st)(hs:w.heap.size<=w'.heap.size)(hb:w'.heap[b]?=w.heap[b]?)(hr:∀k,base<=k->k<w.heap.size->w'.heap[k]?=w.heap[k]?):Wr w' base b st:=by
 cases st with
 | none=>
  obtain⟨a,n,c,h1⟩:=WrBad.ex h;exact(⟨WrBad.lt h,Nat.le_trans (WrBad.le h) hs,a,n,c,hb.trans h1⟩:WrBad w' base b)
 | some l=>
  obtain⟨a,n,c,h1,h2⟩:=WrOk.ex h;refine(⟨WrOk.lt h,Nat.le_trans (WrOk.le h) hs,a,n,c,hb.trans h1,h2.1,?_⟩:WrOk w' base b l)
  rcases h2.2 with h3|⟨g,cap,cur,hv,hg,hh,rest⟩
  ·exact .inl h3
  ·exact .inr ⟨g,cap,cur,hv,hg,(hr g hg (zF hh)).trans hh,rest⟩
theorem Wr.kept {w w':World}{base b B r:Nat}{st:Option (List UInt8)}(h:Wr w base b st)(k:Kept B r w w')(hB:w.heap.size<=B)(hr:r<base)(hb:r≠b):Wr w' base b st:=
 h.same k.size (k.block b (by have:=h.lt;have:=h.le;omega) (λe=>hb e.symm)) (λi h1 h2=>k.block i (by omega) (by omega))
theorem Wr.drew {w:World}{base b:Nat}{st:Option (List UInt8)}(h:Wr w base b st):Wr w.drew base b st:=h.same (zB _) rfl (λ_ _ _=>rfl)
theorem Wr.alloc {w:World}{base b:Nat}{st:Option (List UInt8)}(h:Wr w base b st)(o:Obj):Wr (w.alloc o) base b st:=
 h.same (by simp) (Below.heap_alloc _ _ _ (by have:=h.lt;have:=h.le;omega)) (λk _ hk=>Below.heap_alloc _ _ _ hk)
def WrV (w:World)(base b:Nat)(p:Value)(st:Option (List UInt8)):Prop:=
 (p=.pointer none/\b=base/\base<=w.heap.size/\st=none)\/(p=.pointer (some ⟨b,0,none⟩)/\Wr w base b st)
theorem WrV.le {w:World}{base b:Nat}{p:Value}{st:Option (List UInt8)}(h:WrV w base b p st):base<=w.heap.size:=by
 rcases h with⟨_,_,h,_⟩|⟨_,h⟩
 ·exact h
 ·exact h.le
theorem WrV.alloc {w:World}{base b:Nat}{p:Value}{st:Option (List UInt8)}(h:WrV w base b p st)(o:Obj):WrV (w.alloc o) base b p st:=by
 rcases h with⟨h1,h2,h3,h4⟩|⟨h1,h⟩
 ·exact .inl ⟨h1,h2,by simp;omega,h4⟩
 ·exact .inr ⟨h1,h.alloc o⟩
theorem WrV.drew {w:World}{base b:Nat}{p:Value}{st:Option (List UInt8)}(h:WrV w base b p st):WrV w.drew base b p st:=by
 rcases h with⟨h1,h2,h3,h4⟩|⟨h1,h⟩
 ·exact .inl ⟨h1,h2,h3,h4⟩
 ·exact .inr ⟨h1,h.drew⟩
def pNum (st:Option (List UInt8))(n:Int):Option (List UInt8):=if 0<=n/\n<=4611686018427387903 then st.map (· ++ Wm.enc n.toNat) else none
def pText (st:Option (List UInt8))(s:List UInt8):Option (List UInt8):=if s.length<=65536 then st.map (· ++ (Wm.enc s.length++s)) else none
def pRaw (st:Option (List UInt8))(s:List UInt8):Option (List UInt8):=st.map (· ++ s)
def Short (st:Option (List UInt8))(n:Nat):Prop:=∀l,st=some l->l.length<=n
structure Rd (w:World) (top b:Nat) (l:List UInt8) (e:Int):Prop where
 lt:b<top
 le:top<=w.heap.size
 ex:∃ao c,w.heap[b]?=some (.cells #[.slice ao l.length c,.int .i64 e] 108 (0,0))/\l.length<=c/\(0<c->∃g o,ao=some ⟨g,o,none⟩/\g≠b/\g<top/\∀j (hj:j<l.length),w.cell? ⟨g,o+j,none⟩=some (.int .u8 (l[j]).toNat))
 fail:e≠0->l=[]
theorem Rd.same {w w':World}{top b:Nat}{l:List UInt8}{e:Int}(h:Rd w top b l e)(hs:w.heap.size<=w'.heap.size)(hb:∀k,k<top->w'.heap[k]?=w.heap[k]?):Rd w' top b l e:=by
 obtain⟨ao,c,h1,h2,h3⟩:=h.ex;refine⟨h.lt,Nat.le_trans h.le hs,⟨ao,c,(hb b h.lt).trans h1,h2,λhc=>?_⟩,h.fail⟩
 obtain⟨g,o,ha,hg,hgt,hcell⟩:=h3 hc;exact⟨g,o,ha,hg,hgt,λj hj=>(World.cell?_of_block (w:=w) (hb g hgt)).trans (hcell j hj)⟩
theorem Rd.kept {w w':World}{top b base r:Nat}{l:List UInt8}{e:Int}(h:Rd w top b l e)(k:Kept base r w w')(hB:top<=base)(hr:top<=r):Rd w' top b l e:=
 h.same k.size (λi hi=>k.block i (by omega) (by omega))
theorem Rd.alloc {w:World}{top b:Nat}{l:List UInt8}{e:Int}(h:Rd w top b l e)(o:Obj):Rd (w.alloc o) top b l e:=
 h.same (by simp) (λk hk=>Below.heap_alloc _ _ _ (by have:=h.le;omega))
theorem Rd.drew {w:World}{top b:Nat}{l:List UInt8}{e:Int}(h:Rd w top b l e):Rd w.drew top b l e:=h.same (zB _) (λ_ _=>rfl)
theorem Tab.drew {w:World}(h:Tab w):Tab w.drew:=h.same rfl
def Shows (w:World)(b:Nat)(ao:Option Addr)(l:List UInt8):Prop:=0<l.length->∃g o,ao=some ⟨g,o,none⟩/\g≠b/\g<w.heap.size/\∀j (hj:j<l.length),w.cell? ⟨g,o+j,none⟩=some (.int .u8 (l[j]).toNat)
theorem Qtp:(Tryz.prog.info? 5).map (λi=>(i.zero,i.size,i.bytes))=some (some (.int .u8 0),1,1):=by kernel_rfl
theorem Qja (w:World):Calls Tryz.prog 27 #[] w λe w'=>e=.returned (.pointer (some ⟨w.heap.size,0,none⟩))/\Wr w' (w.heap.size+1) w.heap.size (some [])/\Kept w.heap.size w.heap.size w w'/\w'.heap.size=w.heap.size+1:=by
 go_enter Tryz.func27,Tryz.ntmps27
 go_wp2;go_ret;refine⟨rfl,?_,zI.alloc (zB _) _,by simp⟩
 exact(⟨Nat.lt_succ_self _,by simp,none,0,0,Qaa _ _,World.ownsRow_nil _ _ _ _⟩:WrOk (w.alloc (.cells #[.slice none 0 0,.bool false] 115)) (w.heap.size+1) w.heap.size [])
theorem Qtz (w:World):Calls Tryz.prog 59 #[.pointer none] w λe w'=>e=.returned (.tuple #[])/\w=w':=by
 go_enter Tryz.func59,Tryz.ntmps59
 go_wp2;refine bodyPost_ret (results_none rfl _ _ _) rfl ?_;exact⟨rfl,rfl⟩
theorem Qty (b:Nat)(v:Value)(sp:Bool)(w:World)(h0:w.cell? ⟨b,0,none⟩=some v)(h1:w.cell? ⟨b,1,none⟩=some (.bool sp))(f0:w.frozen? ⟨b,0,none⟩=false)(f1:w.frozen? ⟨b,1,none⟩=false):
  Calls Tryz.prog 59 #[.pointer (some ⟨b,0,none⟩)] w λe w'=>e=.returned (.tuple #[])/\(w.setCell ⟨b,0,none⟩ (.slice none 0 0)).setCell ⟨b,1,none⟩ (.bool true)=w':=by
 go_enter Tryz.func59,Tryz.ntmps59
 go_wp2
 go_end0
 exact⟨rfl,rfl⟩
theorem Qol (base b:Nat)(st:Option (List UInt8))(w:World)(h:Wr w base b st):
  Calls Tryz.prog 59 #[.pointer (some ⟨b,0,none⟩)] w λe w'=>e=.returned (.tuple #[])/\Wr w' base b none/\Kept base b w w'/\Fr b w w':=by
 have hex:∃a n c sp,w.heap[b]?=some (.cells #[.slice a n c,.bool sp] 115 (0,0)):=by
  cases st with
  | none=>obtain⟨a,n,c,h1⟩:=WrBad.ex h;exact⟨a,n,c,true,h1⟩
  | some l=>obtain⟨a,n,c,h1,_⟩:=WrOk.ex h;exact⟨a,n,c,false,h1⟩
 obtain⟨a,n,c,sp,hb⟩:=hex;refine(Qty b _ sp w (Qac hb) (Qab hb) (Qay hb 0) (Qay hb 1)).mono ?_;rintro e w' ⟨rfl,rfl⟩;refine⟨rfl,?_,(zI.set (.inl rfl) 0 _).set (.inl rfl) 1 _,((Fr.refl _ _).set 0 _).set 1 _⟩;exact(⟨h.lt,by have:=h.le;simpa [World.setCell] using this,none,0,0,Qds (Qbc hb)⟩:WrBad _ _ _)
theorem Qxg (w:World)(v:Value):Calls Tryz.prog 61 #[.pointer none,v] w λe w'=>e=.returned (.tuple #[])/\w=w':=by
 go_enter Tryz.func61,Tryz.ntmps61
 go_wp2;refine bodyPost_ret (results_none rfl _ _ _) rfl ?_;exact⟨rfl,rfl⟩
theorem Qrt (b:Nat)(v:Value)(w:World)(h1:w.cell? ⟨b,1,none⟩=some (.bool true)):
  Calls Tryz.prog 61 #[.pointer (some ⟨b,0,none⟩),v] w λe w'=>e=.returned (.tuple #[])/\w=w':=by
 go_enter Tryz.func61,Tryz.ntmps61
 go_wp2;refine bodyPost_ret (results_none rfl _ _ _) rfl ?_;exact⟨rfl,rfl⟩
theorem Qxf (base b:Nat)(a0:Option Addr)(n0 c0:Nat)(n:Nat)(xs:List Value)(ad:Addr)(m c:Nat)(news:List Value)(w:World)(h0:w.cell? ⟨b,0,none⟩=some (.slice a0 n0 c0))(h1:w.cell? ⟨b,1,none⟩=some (.bool false))
  (f0:w.frozen? ⟨b,0,none⟩=false) (hown:w.ownsRow base 5 1 (.slice a0 n0 c0) n xs) (hb:some b≠Value.ownBlock (.slice a0 n0 c0)) (hl:news.length=m*1) (hnews:∀j u,news[j]?=some u->w.cell? (ad.add j)=some u) (hone:∀u∈news,u.oneCell'=true)
  (hlen:n+m<=1000000000) (hbase:base<=w.heap.size) :
  Calls Tryz.prog 61 #[.pointer (some ⟨b,0,none⟩),.slice (some ad) m c] w λe w'=>e=.returned (.tuple #[]) /\
   ∃a1 n1 c1 w1,w1.ownsRow base 5 1 (.slice a1 n1 c1) (n+m) (xs++news)/\w.grownBy w1 (Value.ownBlock (.slice a0 n0 c0))/\w'=w1.setCell ⟨b,0,none⟩ (.slice a1 n1 c1):=by
 obtain⟨i0,hi,hz0,hz1,hz2⟩:=info_parts Qtp
 go_enter Tryz.func61,Tryz.ntmps61
 go_wp2_with (at_builtin;refine wpList_append_own _ rfl _ _ 106 rfl base 5 i0 (.int .u8 0) 1 1 Tryz.underlying106 hi hz0 hz1 hz2 rfl (by decide) _ _ _ rfl hown ad m c news rfl hl hnews hone ?c1 ?c2 hbase ?_)
 case c1=>unfold maxLen;omega
 case c2=>omega
 intro v' w1 hown' hgrow _
 have hex:∃a n c,v'=.slice a n c:=by
  rcases hown'.2 with⟨rfl,_⟩|⟨g,cap,cur,rfl,_⟩
  ·exact⟨_,_,_,rfl⟩
  ·exact⟨_,_,_,rfl⟩
 obtain⟨a1,n1,c1,hv1⟩:=hex;subst hv1;have k0:=hgrow.cell h0 hb
 have e0:w1.frozen? ⟨b,0,none⟩=false:=by
  rw[World.frozen?_of_block (w:=w) (hgrow.block b (World.block_lt_of_cell? _ _ h0) hb)];exact f0
 go_wp2
 go_end0
 exact⟨rfl,_,_,_,_,hown',hgrow,rfl⟩
theorem Qq6 (base b:Nat)(st:Option (List UInt8))(ad:Addr)(m c:Nat)(news:List UInt8)(w:World)(h:Wr w base b st)(hm:news.length=m)
  (hc:∀j (hj:j<news.length),w.cell? (ad.add j)=some (.int .u8 (news[j]).toNat)) (hlen:∀l,st=some l->l.length+m<=1000000000) :
  Calls Tryz.prog 61 #[.pointer (some ⟨b,0,none⟩),.slice (some ad) m c] w λe w'=>e=.returned (.tuple #[])/\Wr w' base b (st.map (· ++ news))/\Kept base b w w'/\Fr b w w':=by
 cases st with
 | none=>
  obtain⟨a,n,c0,hb⟩:=WrBad.ex h;refine(Qrt b _ w (Qab hb)).mono ?_;rintro e w' ⟨rfl,rfl⟩;exact⟨rfl,h,Kept.refl _ _ _,Fr.refl _ _⟩
 | some l=>
  obtain⟨a,n,c0,hb,hown⟩:=WrOk.ex h;have hlt:=WrOk.lt h;have hle:=WrOk.le h
  have hne:some b≠Value.ownBlock (.slice a n c0):=λe=>by
   have:=(hown.lt b e.symm).1
   omega
  refine(Qxf base b a n c0 l.length (bY l) ad m c (bY news) w (Qac hb) (Qab hb) (Qay hb 0) hown hne (by rw[bZ,hm,Nat.mul_one]) ?_ (Qan _) (hlen l rfl) hle).mono ?_
  ·intro j u hu
   have hj:j<news.length:=by
    rcases Nat.lt_or_ge j news.length with h'|h'
    ·exact h'
    ·rw[List.getElem?_eq_none (by rw[bZ];exact h')] at hu;cases hu
   rw[Qbq _ _ hj] at hu
   cases hu
   exact hc j hj
  ·rintro e w' ⟨rfl,a1,n1,c1,w1,hown1,hgrow,rfl⟩
   have hb1:w1.heap[b]?=some (.cells #[.slice a n c0,.bool false] 115 (0,0)):=(hgrow.block b (by omega) hne).trans hb
   have hk:Kept base b w w1:=zI.grown hgrow hle (λk hk=>(hown.lt k hk).1)
   refine⟨rfl,?_,hk.set (.inl rfl) 0 _,((Fr.refl _ _).grown hown hgrow).set 0 _⟩;refine(⟨hlt,?_,a1,n1,c1,Qbc hb1,?_⟩:WrOk _ _ _ _)
   ·have:=hk.size
    have e:(w1.setCell ⟨b,0,none⟩ (.slice a1 n1 c1)).heap.size=w1.heap.size:=by simp[World.setCell]
    omega
   ·rw[zE,Qax,hm]
    exact ownsRow_setCell_below hown1 hlt _
theorem Qok (base b:Nat)(p:Value)(st:Option (List UInt8))(w:World)(h:WrV w base b p st):
  Calls Tryz.prog 59 #[p] w λe w'=>e=.returned (.tuple #[])/\WrV w' base b p none/\Kept base b w w'/\Fr b w w':=by
 rcases h with⟨rfl,h2,h3,h4⟩|⟨rfl,h⟩
 ·refine(Qtz w).mono ?_
  rintro e w' ⟨rfl,rfl⟩;exact⟨rfl,.inl ⟨rfl,h2,h3,rfl⟩,Kept.refl _ _ _,Fr.refl _ _⟩
 ·refine(Qol base b st w h).mono ?_
  rintro e w' ⟨rfl,h1,h2⟩;exact⟨rfl,.inr ⟨rfl,h1⟩,h2⟩
theorem Qrs (base b:Nat)(p:Value)(st:Option (List UInt8))(ad:Addr)(m c:Nat)(news:List UInt8)(w:World)(h:WrV w base b p st)(hm:news.length=m)
  (hc:∀j (hj:j<news.length),w.cell? (ad.add j)=some (.int .u8 (news[j]).toNat)) (hlen:Short st 900000000) (hm2:m<=1000000) :
  Calls Tryz.prog 61 #[p,.slice (some ad) m c] w λe w'=>e=.returned (.tuple #[])/\WrV w' base b p (pRaw st news)/\Kept base b w w'/\Fr b w w':=by
 rcases h with⟨rfl,h2,h3,h4⟩|⟨rfl,h⟩
 ·refine(Qxg w _).mono ?_
  rintro e w' ⟨rfl,rfl⟩;subst h4;exact⟨rfl,.inl ⟨rfl,h2,h3,rfl⟩,Kept.refl _ _ _,Fr.refl _ _⟩
 ·refine(Qq6 base b st ad m c news w h hm hc (λl hl=>by have:=hlen l hl;omega)).mono ?_
  rintro e w' ⟨rfl,h1,h2⟩;exact⟨rfl,.inr ⟨rfl,h1⟩,h2⟩
theorem Qvo (base b:Nat)(p:Value)(st:Option (List UInt8))(n:Int)(w:World)(h:WrV w base b p st)(hn:n<0\/4611686018427387903<n):
  Calls Tryz.prog 60 #[p,.int .i64 n] w λe w'=>e=.returned (.tuple #[])/\WrV w' base b p none/\Kept base b w w'/\Fr b w w':=by
 rcases hn with hn|hn
 ·go_enter Tryz.func60,Tryz.ntmps60
  go_wp2_with (go_at_call 59;refine(Qok base b p st _ h).mono ?_;rintro e w' ⟨rfl,h1,h2⟩)
  refine bodyPost_ret (results_none rfl _ _ _) rfl ?_;exact⟨rfl,h1,h2⟩
 ·have hn0:¬n<0:=by omega
  go_enter Tryz.func60,Tryz.ntmps60
  go_wp2_with (go_at_call 59;refine(Qok base b p st _ h).mono ?_;rintro e w' ⟨rfl,h1,h2⟩)
  refine bodyPost_ret (results_none rfl _ _ _) rfl ?_;exact⟨rfl,h1,h2⟩
theorem Qua (a i n:Nat)(h:n<2 ^ i):(a*2 ^ i) ||| n=a*2 ^ i+n:=by
 rw[<-Nat.shiftLeft_eq,Nat.shiftLeft_add_eq_or_of_lt h]
theorem Qx9 (n:Nat)(h:n<=63):bits BinOp.or IntKind.u64 0 n=((0+n:Nat):Int):=by
 have:=u64_or_nat 0 n (by omega) (by omega)
 rw[show((0:Int))=((0:Nat):Int) from rfl,this,Nat.zero_or,Nat.zero_add]
theorem Qx8 (n:Nat)(h:n<=16383):bits BinOp.or IntKind.u64 16384 n=((16384+n:Nat):Int):=by
 have:=u64_or_nat 16384 n (by omega) (by omega)
 rw[show((16384:Int))=((16384:Nat):Int) from rfl,this,Qua 1 14 n (by omega)]
theorem Qx7 (n:Nat)(h:n<=1073741823):bits BinOp.or IntKind.u64 2147483648 n=((2147483648+n:Nat):Int):=by
 have:=u64_or_nat 2147483648 n (by omega) (by omega)
 rw[show((2147483648:Int))=((2147483648:Nat):Int) from rfl,this,Qua 2 30 n (by omega)]
theorem Qx6 (n:Nat)(h:n<=4611686018427387903):bits BinOp.or IntKind.u64 13835058055282163712 n=((13835058055282163712+n:Nat):Int):=by
 have:=u64_or_nat 13835058055282163712 n (by omega) (by omega)
 rw[show((13835058055282163712:Int))=((13835058055282163712:Nat):Int) from rfl,this,Qua 3 62 n (by omega)]
theorem Qma (m j:Nat):((m:Int)/2 ^ (8*j)%256)=((UInt8.ofNat (m/256 ^ j)).toNat:Int):=by
 rw[UInt8.toNat_ofNat'];have e:((2:Int) ^ (8*j))=((256 ^ j:Nat):Int):=by rw[Int.pow_mul];simp
 rw[e];have e2:((m:Int)/((256 ^ j:Nat):Int))=((m/256 ^ j:Nat):Int):=by simp
 rw[e2]
 omega
theorem Qga (w:World)(x:Int)(c:UInt8)(hx:x=c.toNat):∀j (hj:j < [c].length),(w.alloc (.cells #[.int .u8 x] 5)).cell? (Addr.add ⟨w.heap.size,0,none⟩ j)=some (.int .u8 ([c][j]).toNat):=by
 intro j hj;have:j=0:=by simpa using hj
 subst this;rw[hx];exact World.cell?_alloc_new w _ _ 0
theorem Qgi (st st0:Option (List UInt8))(m j:Nat)(l:List UInt8)(h:pRaw st (Wm.be m (j+1))=pRaw st0 l):pRaw (pRaw st [UInt8.ofNat (m/256 ^ j)]) (Wm.be m j)=pRaw st0 l:=by
 rw[<-h]
 cases st with
 | none=>rfl
 | some l=>simp[pRaw,Wm.be]
theorem Qfg (st:Option (List UInt8))(c:UInt8)(n:Nat)(h:Short st n):Short (pRaw st [c]) (n+1):=by
 intro l hl
 cases st with
 | none=>cases hl
 | some l0=>
  simp only[pRaw,Option.map_some,Option.some.injEq] at hl;subst hl;have:=h l0 rfl;simp
  omega
theorem Qif (st:Option (List UInt8)):pRaw st []=st:=by cases st <;> simp[pRaw]
theorem Qxt (base b:Nat)(p:Value)(st:Option (List UInt8))(n:Nat)(w:World)(h:WrV w base b p st)(ht:Tab w)(h2:n<=63)(hlen:Short st 800000000):
  Calls Tryz.prog 60 #[p,.int .i64 n] w λe w'=>e=.returned (.tuple #[])/\WrV w' base b p (pRaw st (Wm.be (0+n) 1))/\Kept base b w w'/\Fr b w w':=by
 have c0:=ht.c0
 go_enter Tryz.func60,Tryz.ntmps60
 go_wp2;refine wp_loop_rounds 1 ?_;rw[rounds_succ];go_wp2;rw[Qx9 n h2];obtain⟨m,hm⟩:∃m:Nat,m=0+n:=⟨_,rfl⟩;rw[<-hm];have hm64:m<18446744073709551616:=by omega
 have Hm:Hid (m=0+n):=hm;clear hm
 go_loopw [7] (λi wr=>∃(k:Nat) (q:Int) (st':Option (List UInt8)),k<=1/\q+1=(k:Int)/\i=.int .i64 q/\WrV wr base b p st'/\(Kept base b w wr/\Fr b w wr)/\pRaw st' (Wm.be m k)=pRaw st (Wm.be m 1)/\Short st' (800000000+(1-k))) (λi _=>(RowKit.intOf i+1).toNat)
 case atStart=>exact⟨1,0,st,by omega,by omega,rfl,h,⟨Kept.refl _ _ _,Fr.refl _ _⟩,rfl,hlen⟩
 case round=>
  obtain⟨k,q,st',hk,hq,rfl,hw,hkept,hst,hsh⟩:=hrel;have Hst:Hid (pRaw st' (Wm.be m k)=pRaw st (Wm.be m 1)):=hst;clear hst
  cases k with
  | zero=>
   obtain rfl:q=-1:=by omega
   clear hq;go_wp2
   go_end0
   have e:=Hst.out;rw[Wm.be,Qif] at e;rw[<-Hm.out,<-e];exact⟨rfl,hw,hkept⟩
  | succ j=>
   obtain rfl:q=(j:Int):=by omega
   clear hq;have hle:=hw.le
   go_wp2_with (go_at_call 61;refine(Qrs base b p st' ⟨wr.heap.size,0,none⟩ 1 1 [UInt8.ofNat (m/256 ^ j)] _ (hw.alloc _) rfl (Qga wr _ _ (Qma m j)) (λl hl=>by have:=hsh l hl;omega) (by omega)).mono ?_;rintro e w' ⟨rfl,hw',hk',hf'⟩)
   go_roundw
   case rel=>exact⟨j,(j:Int)-1,pRaw st' [UInt8.ofNat (m/256 ^ j)],by omega,by omega,rfl,hw',⟨(hkept.1.alloc hle _).trans hk',(hkept.2.alloc _).trans hf'⟩,Qgi _ _ _ _ _ Hst.out,λl hl=>by have:=Qfg _ _ _ hsh l hl;omega⟩
   case measure=>simp[RowKit.intOf]
theorem Qxs (base b:Nat)(p:Value)(st:Option (List UInt8))(n:Nat)(w:World)(h:WrV w base b p st)(ht:Tab w)(h1:63<n)(h2:n<=16383)(hlen:Short st 800000000):
  Calls Tryz.prog 60 #[p,.int .i64 n] w λe w'=>e=.returned (.tuple #[])/\WrV w' base b p (pRaw st (Wm.be (16384+n) 2))/\Kept base b w w'/\Fr b w w':=by
 have c0:=ht.c0;have c1:=ht.c1
 go_enter Tryz.func60,Tryz.ntmps60
 go_wp2;refine wp_loop_rounds 2 ?_;rw[rounds_succ];go_wp2;rw[rounds_succ];go_wp2;rw[Qx8 n h2];obtain⟨m,hm⟩:∃m:Nat,m=16384+n:=⟨_,rfl⟩;rw[<-hm];have hm64:m<18446744073709551616:=by omega
 have Hm:Hid (m=16384+n):=hm;clear hm
 go_loopw [7] (λi wr=>∃(k:Nat) (q:Int) (st':Option (List UInt8)),k<=2/\q+1=(k:Int)/\i=.int .i64 q/\WrV wr base b p st'/\(Kept base b w wr/\Fr b w wr)/\pRaw st' (Wm.be m k)=pRaw st (Wm.be m 2)/\Short st' (800000000+(2-k))) (λi _=>(RowKit.intOf i+1).toNat)
 case atStart=>exact⟨2,1,st,by omega,by omega,rfl,h,⟨Kept.refl _ _ _,Fr.refl _ _⟩,rfl,hlen⟩
 case round=>
  obtain⟨k,q,st',hk,hq,rfl,hw,hkept,hst,hsh⟩:=hrel;have Hst:Hid (pRaw st' (Wm.be m k)=pRaw st (Wm.be m 2)):=hst;clear hst
  cases k with
  | zero=>
   obtain rfl:q=-1:=by omega
   clear hq;go_wp2
   go_end0
   have e:=Hst.out;rw[Wm.be,Qif] at e;rw[<-Hm.out,<-e];exact⟨rfl,hw,hkept⟩
  | succ j=>
   obtain rfl:q=(j:Int):=by omega
   clear hq;have hle:=hw.le
   go_wp2_with (go_at_call 61;refine(Qrs base b p st' ⟨wr.heap.size,0,none⟩ 1 1 [UInt8.ofNat (m/256 ^ j)] _ (hw.alloc _) rfl (Qga wr _ _ (Qma m j)) (λl hl=>by have:=hsh l hl;omega) (by omega)).mono ?_;rintro e w' ⟨rfl,hw',hk',hf'⟩)
   go_roundw
   case rel=>exact⟨j,(j:Int)-1,pRaw st' [UInt8.ofNat (m/256 ^ j)],by omega,by omega,rfl,hw',⟨(hkept.1.alloc hle _).trans hk',(hkept.2.alloc _).trans hf'⟩,Qgi _ _ _ _ _ Hst.out,λl hl=>by have:=Qfg _ _ _ hsh l hl;omega⟩
   case measure=>simp[RowKit.intOf]
theorem Qxr (base b:Nat)(p:Value)(st:Option (List UInt8))(n:Nat)(w:World)(h:WrV w base b p st)(ht:Tab w)(h1:16383<n)(h2:n<=1073741823)(hlen:Short st 800000000):
  Calls Tryz.prog 60 #[p,.int .i64 n] w λe w'=>e=.returned (.tuple #[])/\WrV w' base b p (pRaw st (Wm.be (2147483648+n) 4))/\Kept base b w w'/\Fr b w w':=by
 have c0:=ht.c0;have c1:=ht.c1;have c2:=ht.c2;have g0:63<n:=by omega
 go_enter Tryz.func60,Tryz.ntmps60
 go_wp2;refine wp_loop_rounds 3 ?_;rw[rounds_succ];go_wp2;rw[rounds_succ];go_wp2;rw[rounds_succ];go_wp2;rw[Qx7 n h2];obtain⟨m,hm⟩:∃m:Nat,m=2147483648+n:=⟨_,rfl⟩;rw[<-hm];have hm64:m<18446744073709551616:=by omega
 have Hm:Hid (m=2147483648+n):=hm;clear hm
 go_loopw [7] (λi wr=>∃(k:Nat) (q:Int) (st':Option (List UInt8)),k<=4/\q+1=(k:Int)/\i=.int .i64 q/\WrV wr base b p st'/\(Kept base b w wr/\Fr b w wr)/\pRaw st' (Wm.be m k)=pRaw st (Wm.be m 4)/\Short st' (800000000+(4-k))) (λi _=>(RowKit.intOf i+1).toNat)
 case atStart=>exact⟨4,3,st,by omega,by omega,rfl,h,⟨Kept.refl _ _ _,Fr.refl _ _⟩,rfl,hlen⟩
 case round=>
  obtain⟨k,q,st',hk,hq,rfl,hw,hkept,hst,hsh⟩:=hrel;have Hst:Hid (pRaw st' (Wm.be m k)=pRaw st (Wm.be m 4)):=hst;clear hst
  cases k with
  | zero=>
   obtain rfl:q=-1:=by omega
   clear hq;go_wp2
   go_end0
   have e:=Hst.out;rw[Wm.be,Qif] at e;rw[<-Hm.out,<-e];exact⟨rfl,hw,hkept⟩
  | succ j=>
   obtain rfl:q=(j:Int):=by omega
   clear hq;have hle:=hw.le
   go_wp2_with (go_at_call 61;refine(Qrs base b p st' ⟨wr.heap.size,0,none⟩ 1 1 [UInt8.ofNat (m/256 ^ j)] _ (hw.alloc _) rfl (Qga wr _ _ (Qma m j)) (λl hl=>by have:=hsh l hl;omega) (by omega)).mono ?_;rintro e w' ⟨rfl,hw',hk',hf'⟩)
   go_roundw
   case rel=>exact⟨j,(j:Int)-1,pRaw st' [UInt8.ofNat (m/256 ^ j)],by omega,by omega,rfl,hw',⟨(hkept.1.alloc hle _).trans hk',(hkept.2.alloc _).trans hf'⟩,Qgi _ _ _ _ _ Hst.out,λl hl=>by have:=Qfg _ _ _ hsh l hl;omega⟩
   case measure=>simp[RowKit.intOf]
theorem Qxq (base b:Nat)(p:Value)(st:Option (List UInt8))(n:Nat)(w:World)(h:WrV w base b p st)(ht:Tab w)(h1:1073741823<n)(h2:n<=4611686018427387903)(hlen:Short st 800000000):
  Calls Tryz.prog 60 #[p,.int .i64 n] w λe w'=>e=.returned (.tuple #[])/\WrV w' base b p (pRaw st (Wm.be (13835058055282163712+n) 8))/\Kept base b w w'/\Fr b w w':=by
 have c0:=ht.c0;have c1:=ht.c1;have c2:=ht.c2;have c3:=ht.c3;have g0:63<n:=by omega
 have g1:16383<n:=by omega
 go_enter Tryz.func60,Tryz.ntmps60
 go_wp2;refine wp_loop_rounds 4 ?_;rw[rounds_succ];go_wp2;rw[rounds_succ];go_wp2;rw[rounds_succ];go_wp2;rw[rounds_succ];go_wp2;rw[Qx6 n h2];obtain⟨m,hm⟩:∃m:Nat,m=13835058055282163712+n:=⟨_,rfl⟩;rw[<-hm];have hm64:m<18446744073709551616:=by omega
 have Hm:Hid (m=13835058055282163712+n):=hm;clear hm
 go_loopw [7] (λi wr=>∃(k:Nat) (q:Int) (st':Option (List UInt8)),k<=8/\q+1=(k:Int)/\i=.int .i64 q/\WrV wr base b p st'/\(Kept base b w wr/\Fr b w wr)/\pRaw st' (Wm.be m k)=pRaw st (Wm.be m 8)/\Short st' (800000000+(8-k))) (λi _=>(RowKit.intOf i+1).toNat)
 case atStart=>exact⟨8,7,st,by omega,by omega,rfl,h,⟨Kept.refl _ _ _,Fr.refl _ _⟩,rfl,hlen⟩
 case round=>
  obtain⟨k,q,st',hk,hq,rfl,hw,hkept,hst,hsh⟩:=hrel;have Hst:Hid (pRaw st' (Wm.be m k)=pRaw st (Wm.be m 8)):=hst;clear hst
  cases k with
  | zero=>
   obtain rfl:q=-1:=by omega
   clear hq;go_wp2
   go_end0
   have e:=Hst.out;rw[Wm.be,Qif] at e;rw[<-Hm.out,<-e];exact⟨rfl,hw,hkept⟩
  | succ j=>
   obtain rfl:q=(j:Int):=by omega
   clear hq;have hle:=hw.le
   go_wp2_with (go_at_call 61;refine(Qrs base b p st' ⟨wr.heap.size,0,none⟩ 1 1 [UInt8.ofNat (m/256 ^ j)] _ (hw.alloc _) rfl (Qga wr _ _ (Qma m j)) (λl hl=>by have:=hsh l hl;omega) (by omega)).mono ?_;rintro e w' ⟨rfl,hw',hk',hf'⟩)
   go_roundw
   case rel=>exact⟨j,(j:Int)-1,pRaw st' [UInt8.ofNat (m/256 ^ j)],by omega,by omega,rfl,hw',⟨(hkept.1.alloc hle _).trans hk',(hkept.2.alloc _).trans hf'⟩,Qgi _ _ _ _ _ Hst.out,λl hl=>by have:=Qfg _ _ _ hsh l hl;omega⟩
   case measure=>simp[RowKit.intOf]
theorem Qqe (base b:Nat)(p:Value)(st:Option (List UInt8))(n:Int)(w:World)(h:WrV w base b p st)(ht:Tab w)(hlen:Short st 800000000):
  Calls Tryz.prog 60 #[p,.int .i64 n] w λe w'=>e=.returned (.tuple #[])/\WrV w' base b p (pNum st n)/\Kept base b w w'/\Fr b w w':=by
 by_cases hn:0<=n/\n<=4611686018427387903
 ·obtain⟨m,rfl⟩:=Int.eq_ofNat_of_zero_le hn.1
  have hm:m<=4611686018427387903:=by omega
  have e:pNum st (m:Int)=pRaw st (Wm.enc m):=by rw[pNum,zG hn,Int.toNat_natCast];rfl
  rw[e];unfold Wm.enc
  by_cases h1:m<64
  ·rw[zG h1]
   have:=Qxt base b p st m w h ht (by omega) hlen
   rwa[Nat.zero_add] at this
  ·rw[if_neg h1]
   by_cases h2:m<16384
   ·rw[zG h2];exact Qxs base b p st m w h ht (by omega) (by omega) hlen
   ·rw[if_neg h2]
    by_cases h3:m<1073741824
    ·rw[zG h3];exact Qxr base b p st m w h ht (by omega) (by omega) hlen
    ·rw[if_neg h3];exact Qxq base b p st m w h ht (by omega) hm hlen
 ·have e:pNum st n=none:=by rw[pNum,if_neg hn]
  rw[e];exact Qvo base b p st n w h (by omega)
theorem Qq5 (base b:Nat)(p:Value)(st:Option (List UInt8))(s:ByteArray)(w:World)(h:WrV w base b p st)(hs:65536<s.size)(hs2:s.size<=9223372036854775807):
  Calls Tryz.prog 29 #[p,.string s] w λe w'=>e=.returned (.tuple #[])/\WrV w' base b p none/\Kept base b w w'/\Fr b w w':=by
 go_enter Tryz.func29,Tryz.ntmps29
 go_wp2_with (go_at_call 59;refine(Qok base b p st _ h).mono ?_;rintro e w' ⟨rfl,h1,h2⟩)
 refine bodyPost_ret (results_none rfl _ _ _) rfl ?_;exact⟨rfl,h1,h2⟩
theorem Qko (w:World)(s:ByteArray)(c:Nat)(f:Nat × Nat):∀j (hj:j<s.data.toList.length),(w.alloc (.cells (bytesRow s c) 5 f)).drew.cell? (Addr.add ⟨w.heap.size,0,none⟩ j)=some (.int .u8 (s.data.toList[j]).toNat):=by
 intro j hj;have hj':j<s.data.size:=by simpa using hj
 rw[Addr.add_lit];refine(World.cell?_alloc_mark w (bytesRow s c) 5 f (0+j)).trans ?_
 rw[Nat.zero_add,bytesRow_at s c j hj']
 simp
theorem Qn2 (w:World)(l:List UInt8)(t:TypeId):∀j (hj:j<l.length),(w.alloc (.cells (bY l).toArray t)).cell? (Addr.add ⟨w.heap.size,0,none⟩ j)=some (.int .u8 (l[j]).toNat):=by
 intro j hj;rw[Addr.add_lit];refine(World.cell?_alloc_mark w (bY l).toArray t (0,0) (0+j)).trans ?_;rw[Nat.zero_add,List.getElem?_toArray,Qbq l j hj]
theorem Qmv (st:Option (List UInt8))(n:Int)(k:Nat)(h:Short st k):Short (pNum st n) (k+8):=by
 intro l hl;unfold pNum at hl
 split at hl
 ·cases st with
  | none=>cases hl
  | some l0=>
   simp only[Option.map_some,Option.some.injEq] at hl;subst hl;have:=h l0 rfl;have:=Wm.enc_length_le n.toNat;simp
   omega
 ·cases hl
theorem Qwc (st:Option (List UInt8))(s:List UInt8)(h:s.length<=65536):pRaw (pNum st s.length) s=pText st s:=by
 unfold pText pNum;rw[zG h,zG (by omega),Int.toNat_natCast]
 cases st <;> simp[pRaw]
theorem Qr4 (st:Option (List UInt8))(s:List UInt8)(h:65536<s.length):pText st s=none:=by
 unfold pText;rw[if_neg (by omega)]
theorem Qob (base b:Nat)(p:Value)(st:Option (List UInt8))(s:ByteArray)(w:World)(h:WrV w base b p st)(ht:Tab w)(hs:s.size<=65536)(hlen:Short st 800000000):
  Calls Tryz.prog 29 #[p,.string s] w λe w'=>e=.returned (.tuple #[])/\WrV w' base b p (pRaw (pNum st s.size) s.data.toList)/\Kept base b w w'/\Fr b w w':=by
 have kc:=λ(w:World)=>run_bytes_of_string (P:=Tryz.prog) w 9 106 5 s Tryz.underlying9 Tryz.underlying106 Tryz.underlying5
 go_enter Tryz.func29,Tryz.ntmps29
 go_wp2_with (go_at_call 60;refine(Qqe base b p st _ _ h ht hlen).mono ?_;rintro e w' ⟨rfl,h1,h2,f2⟩)
 have hle:=h1.le;refine(Qrs base b p (pNum st s.size) ⟨w'.heap.size,0,none⟩ s.size _ s.data.toList _ ((h1.alloc _).drew) (by simp) (Qko w' s _ _) (λl hl=>by have:=Qmv st _ _ hlen l hl;omega) (by omega)).mono ?_
 rintro e w2 ⟨rfl,h3,h4,f4⟩;go_wp2
 go_end0
 exact⟨rfl,h3,h2.trans (((zI.alloc hle _).drew).trans h4),f2.trans ((((Fr.refl _ _).alloc _).drew).trans f4)⟩
theorem Qw3 (base b:Nat)(p:Value)(st:Option (List UInt8))(s:ByteArray)(w:World)(h:WrV w base b p st)(ht:Tab w)(hs:s.size<=9223372036854775807)(hlen:Short st 800000000):
  Calls Tryz.prog 29 #[p,.string s] w λe w'=>e=.returned (.tuple #[])/\WrV w' base b p (pText st s.data.toList)/\Kept base b w w'/\Fr b w w':=by
 have hsz:s.data.toList.length=s.size:=by simp
 by_cases hl:s.size<=65536
 ·have:=Qob base b p st s w h ht hl hlen
  rw[<-hsz,Qwc st s.data.toList (by omega)] at this
  exact this
 ·rw[Qr4 st s.data.toList (by omega)]
  exact Qq5 base b p st s w h (by omega) hs
theorem Qtq (base b:Nat)(p:Value)(st:Option (List UInt8))(x:List UInt8)(hx:x.length=32)(w:World)(h:WrV w base b p st)(hlen:Short st 800000000):
  Calls Tryz.prog 57 #[p,.agg (bY x).toArray] w λe w'=>e=.returned (.tuple #[])/\WrV w' base b p (pRaw st x)/\Kept base b w w'/\Fr b w w':=by
 have hle:=h.le
 go_enter Tryz.func57,Tryz.ntmps57
 go_wp2_with (go_at_call 61;refine(Qrs base b p st ⟨w.heap.size,0,none⟩ 32 32 x _ (h.alloc _) hx (Qn2 w x _) (λl hl=>by have:=hlen l hl;omega) (by omega)).mono ?_;rintro e w' ⟨rfl,hw',hk',hf'⟩)
 go_end0
 exact⟨rfl,hw',(zI.alloc hle _).trans hk',((Fr.refl _ _).alloc _).trans hf'⟩
theorem Qvq (base b:Nat)(w:World)(h:Wr w base b none):
  Calls Tryz.prog 62 #[.pointer (some ⟨b,0,none⟩)] w λe w'=>e=.returned (.tuple #[.string (str []),.int .i64 1])/\w=w':=by
 obtain⟨a,n,c,hb⟩:=WrBad.ex h;have c0:=Qac hb;have c1:=Qab hb;clear hb h
 go_enter Tryz.func62,Tryz.ntmps62
 go_wp2
 go_ret2
 exact⟨rfl,rfl⟩
theorem Qtr (base b:Nat)(l:List UInt8)(w:World)(h:Wr w base b (some l)):
  Calls Tryz.prog 62 #[.pointer (some ⟨b,0,none⟩)] w λe w'=>e=.returned (.tuple #[.string (str l),.int .i64 0])/\w=w':=by
 obtain⟨a,n,c,hb,hown⟩:=WrOk.ex h;have c0:=Qac hb;have c1:=Qab hb
 have kc:(convert 106 9 (.slice a n c)).run Tryz.prog w=.ok (.string (str l)) w:=by
  rcases hown.2 with⟨hv,hn⟩|⟨g,cap,cur,hv,hg,hh,_⟩
  ·cases hv
   have:l=[]:=List.eq_nil_of_length_eq_zero hn;subst this;exact run_convert_bytes_nil _ _ _ Tryz.underlying106 Tryz.underlying5 0 0 _ Tryz.underlying9
  ·cases hv
   refine run_convert_bytes_back w _ _ _ ⟨g,0,none⟩ _ l Tryz.underlying106 Tryz.underlying5 Tryz.underlying9 (λj hj=>?_)
   have:=hown.cellAt j (by omega)
   rw[Qbq l j hj] at this;rw[Addr.add_lit,Nat.zero_add];exact this
 clear hb h hown
 go_enter Tryz.func62,Tryz.ntmps62
 go_wp2
 go_ret2
 exact⟨rfl,rfl⟩
def Failed (w:World)(p:Value)(e:Int):Prop:=e≠0/\((p=.pointer none/\e=1)\/∃b,p=.pointer (some ⟨b,0,none⟩)/\w.cell? ⟨b,1,none⟩=some (.int .i64 e))
theorem Rd.cells {w:World}{top b:Nat}{l:List UInt8}{e:Int}(h:Rd w top b l e):w.cell? ⟨b,1,none⟩=some (.int .i64 e):=by
 obtain⟨_,_,hb,_⟩:=h.ex;exact Qab hb
theorem Rd.failed {w:World}{top b:Nat}{l:List UInt8}{e:Int}(h:Rd w top b l e)(he:e≠0):Failed w (.pointer (some ⟨b,0,none⟩)) e:=⟨he,.inr ⟨b,rfl,h.cells⟩⟩
theorem Qxm (w:World):Calls Tryz.prog 54 #[.pointer none] w λe w'=>e=.returned (.int .i64 1)/\w=w':=by
 go_enter Tryz.func54,Tryz.ntmps54
 go_wp2;go_ret;exact⟨rfl,rfl⟩
theorem Qgt (b:Nat)(x:Int)(w:World)(h:w.cell? ⟨b,1,none⟩=some (.int .i64 x)):Calls Tryz.prog 54 #[.pointer (some ⟨b,0,none⟩)] w λe w'=>e=.returned (.int .i64 x)/\w=w':=by
 go_enter Tryz.func54,Tryz.ntmps54
 go_wp2;go_ret;exact⟨rfl,rfl⟩
theorem Qk8 (p:Value)(x:Int)(w:World)(h:Failed w p x):Calls Tryz.prog 54 #[p] w λe w'=>e=.returned (.int .i64 x)/\w=w':=by
 obtain⟨_,⟨rfl,rfl⟩|⟨b,rfl,hc⟩⟩:=h
 ·exact Qxm w
 ·exact Qgt b x w hc
theorem Qeh (p:Value)(x n:Int)(w:World)(h:Failed w p x):Calls Tryz.prog 52 #[p,.int .i64 n] w λe w'=>e=.returned (.tuple #[.slice none 0 0,.bool false])/\w=w':=by
 have hx:(x != 0)=true:=by have:=h.1;simpa using this
 go_enter Tryz.func52,Tryz.ntmps52
 go_wp2_with (go_at_call 54;refine(Qk8 p x _ h).mono ?_;rintro e w' ⟨rfl,rfl⟩)
 go_ret2
 exact⟨rfl,rfl⟩
theorem Qs2 (b:Nat)(x y:Int)(w:World)(hy:y≠0)(h:w.cell? ⟨b,1,none⟩=some (.int .i64 y)):Calls Tryz.prog 53 #[.pointer (some ⟨b,0,none⟩),.int .i64 x] w λe w'=>e=.returned (.tuple #[])/\w=w':=by
 have hx:(y != 0)=true:=by simpa using hy
 go_enter Tryz.func53,Tryz.ntmps53
 go_wp2;refine bodyPost_ret (results_none rfl _ _ _) rfl ?_;exact⟨rfl,rfl⟩
theorem Qxl (b:Nat)(w:World)(h:w.cell? ⟨b,1,none⟩=some (.int .i64 0)):Calls Tryz.prog 53 #[.pointer (some ⟨b,0,none⟩),.int .i64 0] w λe w'=>e=.returned (.tuple #[])/\w=w':=by
 go_enter Tryz.func53,Tryz.ntmps53
 go_wp2;refine bodyPost_ret (results_none rfl _ _ _) rfl ?_;exact⟨rfl,rfl⟩
theorem Qws (b:Nat)(x:Int)(v:Value)(w:World)(hx:(x == 0)=false)(h0:w.cell? ⟨b,0,none⟩=some v)(h:w.cell? ⟨b,1,none⟩=some (.int .i64 0))(f0:w.frozen? ⟨b,0,none⟩=false)(f1:w.frozen? ⟨b,1,none⟩=false):
  Calls Tryz.prog 53 #[.pointer (some ⟨b,0,none⟩),.int .i64 x] w λe w'=>e=.returned (.tuple #[])/\(w.setCell ⟨b,1,none⟩ (.int .i64 x)).setCell ⟨b,0,none⟩ (.slice none 0 0)=w':=by
 go_enter Tryz.func53,Tryz.ntmps53
 go_wp2
 go_end0
 exact⟨rfl,rfl⟩
theorem Qfc (top b:Nat)(l:List UInt8)(e0 x:Int)(w:World)(h:Rd w top b l e0):
  Calls Tryz.prog 53 #[.pointer (some ⟨b,0,none⟩),.int .i64 x] w λe w'=>e=.returned (.tuple #[])/\Rd w' top b (if e0=0/\x≠0 then [] else l) (if e0=0 then x else e0)/\Kept w.heap.size b w w':=by
 by_cases h0:e0=0
 ·subst h0
  by_cases hx:x=0
  ·subst hx
   rw[if_neg (by simp),zG rfl]
   refine(Qxl b w h.cells).mono ?_;rintro e w' ⟨rfl,rfl⟩;exact⟨rfl,h,Kept.refl _ _ _⟩
  ·rw[zG ⟨rfl,hx⟩,zG rfl]
   obtain⟨ao,c,hb,_⟩:=h.ex;refine(Qws b x _ w (by simpa using hx) (Qac hb) (Qab hb) (Qay hb 0) (Qay hb 1)).mono ?_
   rintro e w' ⟨rfl,rfl⟩;refine⟨rfl,⟨h.lt,by simp[World.setCell];exact h.le,⟨none,0,Qbc (Qds hb),zB _,λhc=>absurd hc (Nat.lt_irrefl 0)⟩,λ_=>rfl⟩,(zI.set (.inl rfl) 1 _).set (.inl rfl) 0 _⟩
 ·rw[if_neg (λh=>h0 h.1),if_neg h0]
  refine(Qs2 b x e0 w h0 h.cells).mono ?_;rintro e w' ⟨rfl,rfl⟩;exact⟨rfl,h,Kept.refl _ _ _⟩
theorem Qda (top b:Nat)(l:List UInt8)(n:Nat)(w:World)(h:Rd w top b l 0)(hn:l.length<n):
  Calls Tryz.prog 52 #[.pointer (some ⟨b,0,none⟩),.int .i64 n] w λe w'=>e=.returned (.tuple #[.slice none 0 0,.bool false])/\Rd w' top b [] 2/\Kept w.heap.size b w w':=by
 obtain⟨ao,c,hb,_⟩:=h.ex;have c0:=Qac hb;have c1:=Qab hb;clear hb
 go_enter Tryz.func52,Tryz.ntmps52
 go_wp2_with (first|(go_at_call 54;refine(Qgt b 0 _ c1).mono ?_;rintro e w' ⟨rfl,rfl⟩)|(go_at_call 53;refine(Qfc top b l 0 2 _ h).mono ?_;rintro e w' ⟨rfl,h1,h2⟩))
 go_ret2
 exact⟨rfl,h1,h2⟩
def TakeRaw (w:World)(b:Nat)(ao:Option Addr)(len c n:Nat)(e:Ending)(w':World):Prop:=
 e=.returned (.tuple #[.slice ao n c,.bool true])/\∃a',(n<c->a'=ao.map (·.add n))/\w.setCell ⟨b,0,none⟩ (.slice a' (len-n) (c-n))=w'
theorem Qv0 (b:Nat)(ao:Option Addr)(len c n:Nat)(w:World)(c0:w.cell? ⟨b,0,none⟩=some (.slice ao len c))(c1:w.cell? ⟨b,1,none⟩=some (.int .i64 0))(f0:w.frozen? ⟨b,0,none⟩=false)(hn:n<=len)(hc:len<=c):
  Calls Tryz.prog 52 #[.pointer (some ⟨b,0,none⟩),.int .i64 n] w λe w'=>TakeRaw w b ao len c n e w':=by
 have h1:¬len<n:=by omega
 by_cases hcn:c=n
 ·subst hcn
  obtain rfl:len=c:=by omega
  go_enter Tryz.func52,Tryz.ntmps52
  go_wp2_with (first|(go_at_call 54;refine(Qgt b 0 _ c1).mono ?_;rintro e w' ⟨rfl,rfl⟩))
  go_ret2
  exact⟨rfl,ao,λh=>absurd h (Nat.lt_irrefl _),by simp⟩
 ·go_enter Tryz.func52,Tryz.ntmps52
  go_wp2_with (first|(go_at_call 54;refine(Qgt b 0 _ c1).mono ?_;rintro e w' ⟨rfl,rfl⟩))
  go_ret2
  exact⟨rfl,_,λ_=>rfl,rfl⟩
def TakeOk (w:World)(top b:Nat)(l:List UInt8)(n:Nat)(e:Ending)(w':World):Prop:=
 ∃ao c,e=.returned (.tuple #[.slice ao n c,.bool true])/\Shows w' b ao (l.take n)/\Rd w' top b (l.drop n) 0/\Kept w.heap.size b w w'
theorem Qcq (top b:Nat)(l:List UInt8)(n:Nat)(w:World)(h:Rd w top b l 0)(hn:n<=l.length):
  Calls Tryz.prog 52 #[.pointer (some ⟨b,0,none⟩),.int .i64 n] w λe w'=>TakeOk w top b l n e w':=by
 obtain⟨ao,c,hb,hc,hex⟩:=h.ex;refine(Qv0 b ao l.length c n w (Qac hb) (Qab hb) (Qay hb 0) hn hc).mono ?_;rintro e w' ⟨rfl,a',ha,rfl⟩;have hk:Kept w.heap.size b w (w.setCell ⟨b,0,none⟩ (.slice a' (l.length-n) (c-n))):=zI.set (.inl rfl) 0 _;have hlt:=h.lt;have hle:=h.le;refine⟨ao,c,rfl,λhpos=>?_,⟨hlt,Nat.le_trans hle hk.size,⟨a',c-n,?_,?_,λhpos=>?_⟩,λh0=>absurd rfl h0⟩,hk⟩
 ·rw[List.length_take] at hpos
  have hp:0<c:=by clear hex;omega
  obtain⟨g,o,rfl,hg,hgt,hcell⟩:=hex hp;clear hex;refine⟨g,o,rfl,hg,zC hgt (Nat.le_trans hle hk.size),λj hj=>?_⟩
  rw[List.length_take] at hj;rw[hk.cell (p:=⟨g,o+j,none⟩) (by show g<_;omega) hg,hcell j (by omega),List.getElem_take]
 ·rw[List.length_drop];exact Qbc hb
 ·rw[List.length_drop];clear hex;omega
 ·have hp:0<c:=by clear hex;omega
  obtain⟨g,o,rfl,hg,hgt,hcell⟩:=hex hp;clear hex;refine⟨g,o+n,?_,hg,hgt,λj hj=>?_⟩
  ·rw[ha (by omega)]
   simp[Addr.add_lit]
  ·rw[List.length_drop] at hj
   rw[hk.cell (p:=⟨g,o+n+j,none⟩) (by show g<_;omega) hg,Nat.add_assoc,hcell (n+j) (by omega),List.getElem_drop]
theorem Qs0 (s:ByteArray)(w:World):
  Calls Tryz.prog 18 #[.string s] w λe w'=>e=.returned (.pointer (some ⟨w.heap.size+1,0,none⟩))/\Rd w' (w.heap.size+2) (w.heap.size+1) s.data.toList 0/\Kept w.heap.size w.heap.size w w'/\w'.heap.size=w.heap.size+2:=by
 have kc:=λ(w:World)=>run_bytes_of_string (P:=Tryz.prog) w 9 106 5 s Tryz.underlying9 Tryz.underlying106 Tryz.underlying5
 go_enter Tryz.func18,Tryz.ntmps18
 go_wp2;go_ret
 have e1:∀(o1 o2:Obj),((w.alloc o1).alloc o2).drew.heap[w.heap.size+1]?=some o2:=λo1 o2=>by
  have:=Qaa (w.alloc o1) o2
  rwa[show(w.alloc o1).heap.size=w.heap.size+1 from by simp] at this
 refine⟨rfl,⟨Nat.lt_succ_self _,by simp,⟨some ⟨w.heap.size,0,none⟩,grownCap w s.size 0 5,by rw[e1];simp,?_,λ_=>⟨w.heap.size,0,rfl,by omega,by omega,λj hj=>?_⟩⟩,λh=>absurd rfl h⟩,((zI.alloc (zB _) _).alloc (by simp) _).drew,by simp⟩
 ·have:=grownCap_ge w s.size 0 5
  simpa using this
 ·have e2:=Qko w s (grownCap w s.size 0 5) ((bytesRow s (grownCap w s.size 0 5)).size,(bytesRow s (grownCap w s.size 0 5)).size+1) j hj
  rw[Addr.add_lit] at e2;refine Eq.trans (World.cell?_of_block (w:=(w.alloc (.cells (bytesRow s (grownCap w s.size 0 5)) 5 ((bytesRow s (grownCap w s.size 0 5)).size,(bytesRow s (grownCap w s.size 0 5)).size+1))).drew) ?_) e2
  exact Below.heap_alloc _ _ _ (by simp)
open Go.Lib (hid)
theorem Qk0 (p:Value)(x most:Int)(w:World)(h:Failed w p x):Calls Tryz.prog 20 #[p,.int .i64 most] w λe w'=>e=.returned (.int .i64 0)/\w=w':=by
 go_enter Tryz.func20,Tryz.ntmps20
 go_wp2_with (go_at_call 52;refine(Qeh p x 1 _ h).mono ?_;rintro e w' ⟨rfl,rfl⟩)
 go_ret;exact⟨rfl,rfl⟩
theorem Qui (top b:Nat)(most:Int)(w:World)(h:Rd w top b [] 0):
  Calls Tryz.prog 20 #[.pointer (some ⟨b,0,none⟩),.int .i64 most] w λe w'=>e=.returned (.int .i64 0)/\Rd w' top b [] 2/\Kept w.heap.size b w w':=by
 go_enter Tryz.func20,Tryz.ntmps20
 go_wp2_with (go_at_call 52;refine(Qda top b [] 1 _ h (by simp)).mono ?_;rintro e w' ⟨rfl,h1,h2⟩)
 go_ret;exact⟨rfl,h1,h2⟩
theorem Ql3 (x y:Nat)(hx:x<36028797018963968)(hy:y<256):bits BinOp.or IntKind.i64 ((x:Int)*256) (y:Int)=((x*256+y:Nat):Int):=by
 rw[bits_join .i64 63 (by decide) (λn h₀ h₁=>by rw[IntKind.wrap_i64];omega) 8 ((x:Int)*256) y (by omega) (by omega) (by omega) (by omega) (by omega) (by omega)]
 omega
theorem Qqi (f:UInt8):bits BinOp.and IntKind.u8 (f.toNat:Int) 63=((f.toNat%64:Nat):Int):=by
 have:=f.toNat_lt;have e:=u8_and63 (x:=(f.toNat:Int)) (by omega) (by omega)
 rw[e]
 omega
theorem Qvm (a:Nat)(ha:a<64)(l:List UInt8)(i:Nat)(hi:i<=6):Wm.valOf a (l.take i)<36028797018963968:=by
 rw[Wm.valOf_eq];have h1:=Wm.valOf_lt (l.take i);have h2:(l.take i).length<=i:=List.length_take_le _ _;have h3:256 ^ (l.take i).length<=256 ^ 6:=Nat.pow_le_pow_right (by omega) (by omega)
 have h4:a*256 ^ (l.take i).length<=63*256 ^ (l.take i).length:=Nat.mul_le_mul_right _ (by omega)
 have h5:(256:Nat) ^ 6=281474976710656:=by decide
 omega
theorem Qmh (a:Nat)(l:List UInt8)(i:Nat)(hi:i<l.length):Wm.valOf a (l.take (i+1))=Wm.valOf a (l.take i)*256+(l[i]).toNat:=by
 rw[List.take_succ_eq_append_getElem hi,Wm.valOf_snoc]
def NumPost (w:World)(top b:Nat)(r:Wm.Got Int)(e:Ending)(w':World):Prop:=e=.returned (.int .i64 r.val)/\Rd w' top b r.left r.err/\Kept w.heap.size b w w'
theorem Kept.step {b:Nat}{w w1 w2:World}(h:Kept w.heap.size b w w1)(k:Kept w1.heap.size b w1 w2):Kept w.heap.size b w w2:=h.trans (k.mono h.size (λ_ _ h=>h))
theorem Qug (top b:Nat)(f:UInt8)(t:List UInt8)(most:Int)(w:World)(h:Rd w top b (f::t) 0)(hd:(f.toNat:Int)/64=0)(Hd:Hid (f.toNat/64=0))(Hm:Hid (Wm.more f=0))(hs:0<=t.length):
  Calls Tryz.prog 20 #[.pointer (some ⟨b,0,none⟩),.int .i64 most] w λe w'=>NumPost w top b (Wm.rNum (f::t) most) e w':=by
 have hand:=Qqi f
 go_enter Tryz.func20,Tryz.ntmps20
 go_wp2_with fail
 refine(Qcq top b (f::t) 1 _ h (by simp)).mono ?_
 rintro e w1 ⟨ao,c,rfl,hsh,h1,k1⟩;obtain⟨g,o,rfl,hgb1,hgb2,hcell⟩:=hsh (by simp)
 have hc:=hcell 0 (by simp)
 simp at hc;clear hcell hsh
 go_wp2_with fail
 refine(Qcq top b t 0 _ h1 hs).mono ?_;rintro e w2 ⟨ao2,c2,rfl,hsh,h2,k2⟩;have hcw:w2.cell? ⟨g,o,none⟩=some (.int .u8 f.toNat):=(k2.cell (p:=⟨g,o,none⟩) hgb2 hgb1).trans hc;clear hc;clear hsh;go_wp2
 go_loop [9,41] (λn i=>∃(j N:Nat),j<=0/\i=.int .i64 j/\n=.int .i64 N/\Hid (N=Wm.valOf (f.toNat%64) (t.take j))) (λ_ i=>(0-RowKit.intOf i).toNat)
 case atStart=>exact⟨0,f.toNat%64,by omega,rfl,rfl,hid rfl⟩
 case round=>
  obtain⟨i,N,hi,rfl,rfl,HN⟩:=hrel
  by_cases hlt:i<0
  ·omega
  ·obtain rfl:i=0:=by omega
   have hN2:N=Wm.nval f t:=by rw[Wm.nval,Hm.out];exact HN.out
   clear HN
   have hleast:Wm.least f t=true:=by
    have:(f.toNat/64=0\/Wm.bnd (f.toNat/64-1)<Wm.nval f t):=Or.inl Hd.out
    simpa [Wm.least] using this
   by_cases hmost:most<(N:Int)
   ·have er:Wm.rNum (f::t) most=⟨0,[],5⟩:=by rw[Wm.rNum,if_neg (by rw[Hm.out];omega),if_neg (by rw[hleast];simp),zG (by rw[<-hN2];exact hmost)]
    have Er:=hid er;clear er hleast hN2
    go_wp2_with (go_at_call 53;refine(Qfc top b _ 0 5 _ h2).mono ?_;rintro e w3 ⟨rfl,h3,k3⟩)
    go_ret;rw[Er.out];exact⟨rfl,by simpa using h3,(k1.step k2).step k3⟩
   ·have er:Wm.rNum (f::t) most=⟨(N:Int),t.drop 0,0⟩:=by rw[Wm.rNum,if_neg (by rw[Hm.out];omega),if_neg (by rw[hleast];simp),if_neg (by rw[<-hN2];exact hmost),Hm.out,hN2]
    have Er:=hid er;clear er hleast hN2;go_wp2;go_ret;rw[Er.out];exact⟨rfl,h2,k1.step k2⟩
theorem Qo9 (top b:Nat)(f:UInt8)(t:List UInt8)(most:Int)(w:World)(h:Rd w top b (f::t) 0)(hd:(f.toNat:Int)/64=1)(hs:t.length<1):
  Calls Tryz.prog 20 #[.pointer (some ⟨b,0,none⟩),.int .i64 most] w λe w'=>e=.returned (.int .i64 0)/\Rd w' top b [] 2/\Kept w.heap.size b w w':=by
 go_enter Tryz.func20,Tryz.ntmps20
 go_wp2_with fail
 refine(Qcq top b (f::t) 1 _ h (by simp)).mono ?_
 rintro e w1 ⟨ao,c,rfl,hsh,h1,k1⟩;obtain⟨g,o,rfl,hgb1,hgb2,hcell⟩:=hsh (by simp)
 have hc:=hcell 0 (by simp)
 simp at hc;clear hcell hsh
 go_wp2_with fail
 refine(Qda top b t 1 _ h1 hs).mono ?_;rintro e w2 ⟨rfl,h2,k2⟩;go_wp2;go_ret;exact⟨rfl,h2,k1.step k2⟩
theorem Quf (top b:Nat)(f:UInt8)(t:List UInt8)(most:Int)(w:World)(h:Rd w top b (f::t) 0)(ht:Tab w)(hb0:0<b)(hd:(f.toNat:Int)/64=1)(Hd:Hid (f.toNat/64=1))(Hm:Hid (Wm.more f=1))(hs:1<=t.length):
  Calls Tryz.prog 20 #[.pointer (some ⟨b,0,none⟩),.int .i64 most] w λe w'=>NumPost w top b (Wm.rNum (f::t) most) e w':=by
 have ct:=ht.at 0 (by decide)
 have h0lt:=ht.lt;have hltw:=h.lt;have hand:=Qqi f
 go_enter Tryz.func20,Tryz.ntmps20
 go_wp2_with fail
 refine(Qcq top b (f::t) 1 _ h (by simp)).mono ?_
 rintro e w1 ⟨ao,c,rfl,hsh,h1,k1⟩;obtain⟨g,o,rfl,hgb1,hgb2,hcell⟩:=hsh (by simp)
 have hc:=hcell 0 (by simp)
 simp at hc;clear hcell hsh
 go_wp2_with fail
 refine(Qcq top b t 1 _ h1 hs).mono ?_;rintro e w2 ⟨ao2,c2,rfl,hsh,h2,k2⟩;have hcw:w2.cell? ⟨g,o,none⟩=some (.int .u8 f.toNat):=(k2.cell (p:=⟨g,o,none⟩) hgb2 hgb1).trans hc;clear hc;have ct2:w2.cell? ⟨0,0,none⟩=some (.int .i64 63):=((k1.step k2).cell (p:=⟨0,0,none⟩) h0lt (by show 0≠b;omega)).trans ct
 clear ct;obtain⟨g2,o2,rfl,_,_,hcell⟩:=hsh (by rw[List.length_take];omega)
 have hcells:∀j (hj:j<t.length),j<1->w2.cell? ⟨g2,o2+j,none⟩=some (.int .u8 (t[j]).toNat):=λj hj hjm=>by
  have:=hcell j (by rw[List.length_take];omega)
  rwa[List.getElem_take] at this
 have Hcells:=hid hcells;clear hcell hsh hcells;go_wp2
 go_loop [9,41] (λn i=>∃(j N:Nat),j<=1/\i=.int .i64 j/\n=.int .i64 N/\Hid (N=Wm.valOf (f.toNat%64) (t.take j))) (λ_ i=>(1-RowKit.intOf i).toNat)
 case atStart=>exact⟨0,f.toNat%64,by omega,rfl,rfl,hid rfl⟩
 case round=>
  obtain⟨i,N,hi,rfl,rfl,HN⟩:=hrel
  by_cases hlt:i<1
  ·have hit:i<t.length:=by omega
   have hc2:=Hcells.out i hit hlt;have hstep:=Qmh (f.toNat%64) t i hit;have hy:(t[i]).toNat<256:=(t[i]).toNat_lt;have hN3:=HN.out;have hNlt:N<36028797018963968:=by rw[hN3];exact Qvm _ (Nat.mod_lt _ (by decide)) _ _ (by omega)
   rw[<-hN3] at hstep;clear hN3;generalize (t[i]).toNat=y at hc2 hstep hy;have hor:=Ql3 N y hNlt hy;have Hstep:=hid hstep;clear hstep;go_wp2
   go_round
   case rel=>exact⟨i+1,N*256+y,by omega,by go_num,rfl,hid Hstep.out.symm⟩
   case measure=>simp[RowKit.intOf];omega
  ·obtain rfl:i=1:=by omega
   have hN2:N=Wm.nval f t:=by rw[Wm.nval,Hm.out];exact HN.out
   clear HN
   by_cases hl:N<=63
   ·have hleast:Wm.least f t=false:=by
     have:¬(f.toNat/64=0\/Wm.bnd (f.toNat/64-1)<Wm.nval f t):=by rw[Hd.out,<-hN2];simp only[Wm.bnd];omega
     simpa [Wm.least] using this
    have er:Wm.rNum (f::t) most=⟨0,[],3⟩:=by rw[Wm.rNum,if_neg (by rw[Hm.out];omega),zG hleast]
    have Er:=hid er;clear er hleast hN2
    go_wp2_with (go_at_call 53;refine(Qfc top b _ 0 3 _ h2).mono ?_;rintro e w3 ⟨rfl,h3,k3⟩)
    go_ret;rw[Er.out];exact⟨rfl,by simpa using h3,(k1.step k2).step k3⟩
   ·have hleast:Wm.least f t=true:=by
     have:(f.toNat/64=0\/Wm.bnd (f.toNat/64-1)<Wm.nval f t):=by rw[Hd.out,<-hN2];simp only[Wm.bnd];omega
     simpa [Wm.least] using this
    by_cases hmost:most<(N:Int)
    ·have er:Wm.rNum (f::t) most=⟨0,[],5⟩:=by rw[Wm.rNum,if_neg (by rw[Hm.out];omega),if_neg (by rw[hleast];simp),zG (by rw[<-hN2];exact hmost)]
     have Er:=hid er;clear er hleast hN2
     go_wp2_with (go_at_call 53;refine(Qfc top b _ 0 5 _ h2).mono ?_;rintro e w3 ⟨rfl,h3,k3⟩)
     go_ret;rw[Er.out];exact⟨rfl,by simpa using h3,(k1.step k2).step k3⟩
    ·have er:Wm.rNum (f::t) most=⟨(N:Int),t.drop 1,0⟩:=by rw[Wm.rNum,if_neg (by rw[Hm.out];omega),if_neg (by rw[hleast];simp),if_neg (by rw[<-hN2];exact hmost),Hm.out,hN2]
     have Er:=hid er;clear er hleast hN2;go_wp2;go_ret;rw[Er.out];exact⟨rfl,h2,k1.step k2⟩
theorem Qo8 (top b:Nat)(f:UInt8)(t:List UInt8)(most:Int)(w:World)(h:Rd w top b (f::t) 0)(hd:(f.toNat:Int)/64=2)(hs:t.length<3):
  Calls Tryz.prog 20 #[.pointer (some ⟨b,0,none⟩),.int .i64 most] w λe w'=>e=.returned (.int .i64 0)/\Rd w' top b [] 2/\Kept w.heap.size b w w':=by
 go_enter Tryz.func20,Tryz.ntmps20
 go_wp2_with fail
 refine(Qcq top b (f::t) 1 _ h (by simp)).mono ?_
 rintro e w1 ⟨ao,c,rfl,hsh,h1,k1⟩;obtain⟨g,o,rfl,hgb1,hgb2,hcell⟩:=hsh (by simp)
 have hc:=hcell 0 (by simp)
 simp at hc;clear hcell hsh
 go_wp2_with fail
 refine(Qda top b t 3 _ h1 hs).mono ?_;rintro e w2 ⟨rfl,h2,k2⟩;go_wp2;go_ret;exact⟨rfl,h2,k1.step k2⟩
theorem Que (top b:Nat)(f:UInt8)(t:List UInt8)(most:Int)(w:World)(h:Rd w top b (f::t) 0)(ht:Tab w)(hb0:0<b)(hd:(f.toNat:Int)/64=2)(Hd:Hid (f.toNat/64=2))(Hm:Hid (Wm.more f=3))(hs:3<=t.length):
  Calls Tryz.prog 20 #[.pointer (some ⟨b,0,none⟩),.int .i64 most] w λe w'=>NumPost w top b (Wm.rNum (f::t) most) e w':=by
 have ct:=ht.at 1 (by decide)
 have h0lt:=ht.lt;have hltw:=h.lt;have hand:=Qqi f
 go_enter Tryz.func20,Tryz.ntmps20
 go_wp2_with fail
 refine(Qcq top b (f::t) 1 _ h (by simp)).mono ?_
 rintro e w1 ⟨ao,c,rfl,hsh,h1,k1⟩;obtain⟨g,o,rfl,hgb1,hgb2,hcell⟩:=hsh (by simp)
 have hc:=hcell 0 (by simp)
 simp at hc;clear hcell hsh
 go_wp2_with fail
 refine(Qcq top b t 3 _ h1 hs).mono ?_;rintro e w2 ⟨ao2,c2,rfl,hsh,h2,k2⟩;have hcw:w2.cell? ⟨g,o,none⟩=some (.int .u8 f.toNat):=(k2.cell (p:=⟨g,o,none⟩) hgb2 hgb1).trans hc;clear hc;have ct2:w2.cell? ⟨0,1,none⟩=some (.int .i64 16383):=((k1.step k2).cell (p:=⟨0,1,none⟩) h0lt (by show 0≠b;omega)).trans ct
 clear ct;obtain⟨g2,o2,rfl,_,_,hcell⟩:=hsh (by rw[List.length_take];omega)
 have hcells:∀j (hj:j<t.length),j<3->w2.cell? ⟨g2,o2+j,none⟩=some (.int .u8 (t[j]).toNat):=λj hj hjm=>by
  have:=hcell j (by rw[List.length_take];omega)
  rwa[List.getElem_take] at this
 have Hcells:=hid hcells;clear hcell hsh hcells;go_wp2
 go_loop [9,41] (λn i=>∃(j N:Nat),j<=3/\i=.int .i64 j/\n=.int .i64 N/\Hid (N=Wm.valOf (f.toNat%64) (t.take j))) (λ_ i=>(3-RowKit.intOf i).toNat)
 case atStart=>exact⟨0,f.toNat%64,by omega,rfl,rfl,hid rfl⟩
 case round=>
  obtain⟨i,N,hi,rfl,rfl,HN⟩:=hrel
  by_cases hlt:i<3
  ·have hit:i<t.length:=by omega
   have hc2:=Hcells.out i hit hlt;have hstep:=Qmh (f.toNat%64) t i hit;have hy:(t[i]).toNat<256:=(t[i]).toNat_lt;have hN3:=HN.out;have hNlt:N<36028797018963968:=by rw[hN3];exact Qvm _ (Nat.mod_lt _ (by decide)) _ _ (by omega)
   rw[<-hN3] at hstep;clear hN3;generalize (t[i]).toNat=y at hc2 hstep hy;have hor:=Ql3 N y hNlt hy;have Hstep:=hid hstep;clear hstep;go_wp2
   go_round
   case rel=>exact⟨i+1,N*256+y,by omega,by go_num,rfl,hid Hstep.out.symm⟩
   case measure=>simp[RowKit.intOf];omega
  ·obtain rfl:i=3:=by omega
   have hN2:N=Wm.nval f t:=by rw[Wm.nval,Hm.out];exact HN.out
   clear HN
   by_cases hl:N<=16383
   ·have hleast:Wm.least f t=false:=by
     have:¬(f.toNat/64=0\/Wm.bnd (f.toNat/64-1)<Wm.nval f t):=by rw[Hd.out,<-hN2];simp only[Wm.bnd];omega
     simpa [Wm.least] using this
    have er:Wm.rNum (f::t) most=⟨0,[],3⟩:=by rw[Wm.rNum,if_neg (by rw[Hm.out];omega),zG hleast]
    have Er:=hid er;clear er hleast hN2
    go_wp2_with (go_at_call 53;refine(Qfc top b _ 0 3 _ h2).mono ?_;rintro e w3 ⟨rfl,h3,k3⟩)
    go_ret;rw[Er.out];exact⟨rfl,by simpa using h3,(k1.step k2).step k3⟩
   ·have hleast:Wm.least f t=true:=by
     have:(f.toNat/64=0\/Wm.bnd (f.toNat/64-1)<Wm.nval f t):=by rw[Hd.out,<-hN2];simp only[Wm.bnd];omega
     simpa [Wm.least] using this
    by_cases hmost:most<(N:Int)
    ·have er:Wm.rNum (f::t) most=⟨0,[],5⟩:=by rw[Wm.rNum,if_neg (by rw[Hm.out];omega),if_neg (by rw[hleast];simp),zG (by rw[<-hN2];exact hmost)]
     have Er:=hid er;clear er hleast hN2
     go_wp2_with (go_at_call 53;refine(Qfc top b _ 0 5 _ h2).mono ?_;rintro e w3 ⟨rfl,h3,k3⟩)
     go_ret;rw[Er.out];exact⟨rfl,by simpa using h3,(k1.step k2).step k3⟩
    ·have er:Wm.rNum (f::t) most=⟨(N:Int),t.drop 3,0⟩:=by rw[Wm.rNum,if_neg (by rw[Hm.out];omega),if_neg (by rw[hleast];simp),if_neg (by rw[<-hN2];exact hmost),Hm.out,hN2]
     have Er:=hid er;clear er hleast hN2;go_wp2;go_ret;rw[Er.out];exact⟨rfl,h2,k1.step k2⟩
theorem Qo7 (top b:Nat)(f:UInt8)(t:List UInt8)(most:Int)(w:World)(h:Rd w top b (f::t) 0)(hd:(f.toNat:Int)/64=3)(hs:t.length<7):
  Calls Tryz.prog 20 #[.pointer (some ⟨b,0,none⟩),.int .i64 most] w λe w'=>e=.returned (.int .i64 0)/\Rd w' top b [] 2/\Kept w.heap.size b w w':=by
 go_enter Tryz.func20,Tryz.ntmps20
 go_wp2_with fail
 refine(Qcq top b (f::t) 1 _ h (by simp)).mono ?_
 rintro e w1 ⟨ao,c,rfl,hsh,h1,k1⟩;obtain⟨g,o,rfl,hgb1,hgb2,hcell⟩:=hsh (by simp)
 have hc:=hcell 0 (by simp)
 simp at hc;clear hcell hsh
 go_wp2_with fail
 refine(Qda top b t 7 _ h1 hs).mono ?_;rintro e w2 ⟨rfl,h2,k2⟩;go_wp2;go_ret;exact⟨rfl,h2,k1.step k2⟩
theorem Qud (top b:Nat)(f:UInt8)(t:List UInt8)(most:Int)(w:World)(h:Rd w top b (f::t) 0)(ht:Tab w)(hb0:0<b)(hd:(f.toNat:Int)/64=3)(Hd:Hid (f.toNat/64=3))(Hm:Hid (Wm.more f=7))(hs:7<=t.length):
  Calls Tryz.prog 20 #[.pointer (some ⟨b,0,none⟩),.int .i64 most] w λe w'=>NumPost w top b (Wm.rNum (f::t) most) e w':=by
 have ct:=ht.at 2 (by decide)
 have h0lt:=ht.lt;have hltw:=h.lt;have hand:=Qqi f
 go_enter Tryz.func20,Tryz.ntmps20
 go_wp2_with fail
 refine(Qcq top b (f::t) 1 _ h (by simp)).mono ?_
 rintro e w1 ⟨ao,c,rfl,hsh,h1,k1⟩;obtain⟨g,o,rfl,hgb1,hgb2,hcell⟩:=hsh (by simp)
 have hc:=hcell 0 (by simp)
 simp at hc;clear hcell hsh
 go_wp2_with fail
 refine(Qcq top b t 7 _ h1 hs).mono ?_;rintro e w2 ⟨ao2,c2,rfl,hsh,h2,k2⟩;have hcw:w2.cell? ⟨g,o,none⟩=some (.int .u8 f.toNat):=(k2.cell (p:=⟨g,o,none⟩) hgb2 hgb1).trans hc;clear hc;have ct2:w2.cell? ⟨0,2,none⟩=some (.int .i64 1073741823):=((k1.step k2).cell (p:=⟨0,2,none⟩) h0lt (by show 0≠b;omega)).trans ct
 clear ct;obtain⟨g2,o2,rfl,_,_,hcell⟩:=hsh (by rw[List.length_take];omega)
 have hcells:∀j (hj:j<t.length),j<7->w2.cell? ⟨g2,o2+j,none⟩=some (.int .u8 (t[j]).toNat):=λj hj hjm=>by
  have:=hcell j (by rw[List.length_take];omega)
  rwa[List.getElem_take] at this
 have Hcells:=hid hcells;clear hcell hsh hcells;go_wp2
 go_loop [9,41] (λn i=>∃(j N:Nat),j<=7/\i=.int .i64 j/\n=.int .i64 N/\Hid (N=Wm.valOf (f.toNat%64) (t.take j))) (λ_ i=>(7-RowKit.intOf i).toNat)
 case atStart=>exact⟨0,f.toNat%64,by omega,rfl,rfl,hid rfl⟩
 case round=>
  obtain⟨i,N,hi,rfl,rfl,HN⟩:=hrel
  by_cases hlt:i<7
  ·have hit:i<t.length:=by omega
   have hc2:=Hcells.out i hit hlt;have hstep:=Qmh (f.toNat%64) t i hit;have hy:(t[i]).toNat<256:=(t[i]).toNat_lt;have hN3:=HN.out;have hNlt:N<36028797018963968:=by rw[hN3];exact Qvm _ (Nat.mod_lt _ (by decide)) _ _ (by omega)
   rw[<-hN3] at hstep;clear hN3;generalize (t[i]).toNat=y at hc2 hstep hy;have hor:=Ql3 N y hNlt hy;have Hstep:=hid hstep;clear hstep;go_wp2
   go_round
   case rel=>exact⟨i+1,N*256+y,by omega,by go_num,rfl,hid Hstep.out.symm⟩
   case measure=>simp[RowKit.intOf];omega
  ·obtain rfl:i=7:=by omega
   have hN2:N=Wm.nval f t:=by rw[Wm.nval,Hm.out];exact HN.out
   clear HN
   by_cases hl:N<=1073741823
   ·have hleast:Wm.least f t=false:=by
     have:¬(f.toNat/64=0\/Wm.bnd (f.toNat/64-1)<Wm.nval f t):=by rw[Hd.out,<-hN2];simp only[Wm.bnd];omega
     simpa [Wm.least] using this
    have er:Wm.rNum (f::t) most=⟨0,[],3⟩:=by rw[Wm.rNum,if_neg (by rw[Hm.out];omega),zG hleast]
    have Er:=hid er;clear er hleast hN2
    go_wp2_with (go_at_call 53;refine(Qfc top b _ 0 3 _ h2).mono ?_;rintro e w3 ⟨rfl,h3,k3⟩)
    go_ret;rw[Er.out];exact⟨rfl,by simpa using h3,(k1.step k2).step k3⟩
   ·have hleast:Wm.least f t=true:=by
     have:(f.toNat/64=0\/Wm.bnd (f.toNat/64-1)<Wm.nval f t):=by rw[Hd.out,<-hN2];simp only[Wm.bnd];omega
     simpa [Wm.least] using this
    by_cases hmost:most<(N:Int)
    ·have er:Wm.rNum (f::t) most=⟨0,[],5⟩:=by rw[Wm.rNum,if_neg (by rw[Hm.out];omega),if_neg (by rw[hleast];simp),zG (by rw[<-hN2];exact hmost)]
     have Er:=hid er;clear er hleast hN2
     go_wp2_with (go_at_call 53;refine(Qfc top b _ 0 5 _ h2).mono ?_;rintro e w3 ⟨rfl,h3,k3⟩)
     go_ret;rw[Er.out];exact⟨rfl,by simpa using h3,(k1.step k2).step k3⟩
    ·have er:Wm.rNum (f::t) most=⟨(N:Int),t.drop 7,0⟩:=by rw[Wm.rNum,if_neg (by rw[Hm.out];omega),if_neg (by rw[hleast];simp),if_neg (by rw[<-hN2];exact hmost),Hm.out,hN2]
     have Er:=hid er;clear er hleast hN2;go_wp2;go_ret;rw[Er.out];exact⟨rfl,h2,k1.step k2⟩
theorem Quh (top b:Nat)(l:List UInt8)(most:Int)(w:World)(h:Rd w top b l 0)(ht:Tab w)(hb0:0<b):
  Calls Tryz.prog 20 #[.pointer (some ⟨b,0,none⟩),.int .i64 most] w λe w'=>NumPost w top b (Wm.rNum l most) e w':=by
 cases l with
 | nil=>exact Qui top b most w h
 | cons f t=>
  rcases Wm.more_cases f with⟨a,m⟩|⟨a,m⟩|⟨a,m⟩|⟨a,m⟩
  ·exact Qug top b f t most w h (by omega) a m (by omega)
  ·by_cases hs:t.length<1
   ·have er:Wm.rNum (f::t) most=⟨0,[],2⟩:=by rw[Wm.rNum,zG (by omega)]
    rw[er];exact Qo9 top b f t most w h (by omega) hs
   ·exact Quf top b f t most w h ht hb0 (by omega) a m (by omega)
  ·by_cases hs:t.length<3
   ·have er:Wm.rNum (f::t) most=⟨0,[],2⟩:=by rw[Wm.rNum,zG (by omega)]
    rw[er];exact Qo8 top b f t most w h (by omega) hs
   ·exact Que top b f t most w h ht hb0 (by omega) a m (by omega)
  ·by_cases hs:t.length<7
   ·have er:Wm.rNum (f::t) most=⟨0,[],2⟩:=by rw[Wm.rNum,zG (by omega)]
    rw[er];exact Qo7 top b f t most w h (by omega) hs
   ·exact Qud top b f t most w h ht hb0 (by omega) a m (by omega)
theorem Qmy (p:Value)(x most:Int)(w:World)(h:Failed w p x):Calls Tryz.prog 21 #[p,.int .i64 most] w λe w'=>e=.returned (.string (str []))/\w=w':=by
 have kn:=run_convert_bytes_nil w 106 5 Tryz.underlying106 Tryz.underlying5 0 0 _ Tryz.underlying9
 by_cases hm:65536<most
 all_goals
  go_enter Tryz.func21,Tryz.ntmps21
  go_wp2_with fail
  refine(Qk0 p x _ _ h).mono ?_;rintro e w' ⟨rfl,rfl⟩
  go_wp2_with fail
  refine(Qeh p x 0 _ h).mono ?_;rintro e w' ⟨rfl,rfl⟩;go_wp2;go_ret;exact⟨rfl,rfl⟩
theorem Qs9 (w:World)(b n c:Nat)(ao:Option Addr)(l:List UInt8)(h:Shows w b ao l)(hn:l.length=n):(convert 106 9 (.slice ao n c)).run Tryz.prog w=.ok (.string (str l)) w:=by
 subst hn
 by_cases hl:l=[]
 ·subst hl
  cases ao with
  | none=>exact run_convert_bytes_nil w 106 5 Tryz.underlying106 Tryz.underlying5 0 c _ Tryz.underlying9
  | some a=>exact run_convert_bytes_back w _ _ _ a c [] Tryz.underlying106 Tryz.underlying5 Tryz.underlying9 (λj hj=>absurd hj (Nat.not_lt_zero j))
 ·obtain⟨g,o,rfl,_,_,hc⟩:=h (List.length_pos_iff.2 hl)
  refine run_convert_bytes_back w _ _ _ ⟨g,o,none⟩ c l Tryz.underlying106 Tryz.underlying5 Tryz.underlying9 (λj hj=>?_)
  rw[Addr.add_lit];exact hc j hj
def TextPost (w:World)(top b:Nat)(r:Wm.Got (List UInt8))(e:Ending)(w':World):Prop:=e=.returned (.string (str r.val))/\Rd w' top b r.left r.err/\Kept w.heap.size b w w'
theorem Qv3 (top b:Nat)(l:List UInt8)(most m:Int)(hm:(65536<most/\m=65536)\/(¬65536<most/\m=most))(r:Wm.Got Int)(hr:Wm.rNum l m=r)(w:World)(h:Rd w top b l 0)(ht:Tab w)(hb0:0<b):
  Calls Tryz.prog 21 #[.pointer (some ⟨b,0,none⟩),.int .i64 most] w λe w'=>TextPost w top b (if r.err=0 then Wm.rRaw r.left r.val.toNat else⟨[],[],r.err⟩) e w':=by
 have hv:=Wm.rNum_val l m;have hf:=Wm.rNum_fail l m;rw[hr] at hv hf;obtain⟨N,hN⟩:=Int.eq_ofNat_of_zero_le hv.1;have hv2:N<=4611686018427387903:=by have:=hv.2;omega
 clear hv
 have hcall:∀w,Rd w top b l 0->Tab w->Calls Tryz.prog 20 #[.pointer (some ⟨b,0,none⟩),.int .i64 m] w λe w'=>e=.returned (.int .i64 N)/\Rd w' top b r.left r.err/\Kept w.heap.size b w w':=λw h ht=>by
  have:=Quh top b l m w h ht hb0;rw[hr] at this;refine this.mono ?_;rintro e w' ⟨rfl,h1,h2⟩;exact⟨by rw[hN],h1,h2⟩
 have Hcall:=hid hcall;clear hcall;have hNt:r.val.toNat=N:=by omega
 rw[hNt];have kn:=run_convert_bytes_nil (P:=Tryz.prog) (w:=w) 106 5 Tryz.underlying106 Tryz.underlying5 0 0 _ Tryz.underlying9
 by_cases he:r.err=0
 ·rw[zG he]
  clear hf kn hN hNt
  by_cases hs:r.left.length<N
  ·have er:Wm.rRaw r.left N=⟨[],[],2⟩:=by rw[Wm.rRaw,zG hs]
   rw[er];clear er
   rcases hm with⟨hm,rfl⟩|⟨hm,rfl⟩
   all_goals
    go_enter Tryz.func21,Tryz.ntmps21
    go_wp2_with fail
    refine(Hcall.out _ h ht).mono ?_;rintro e w1 ⟨rfl,h1,k1⟩;rw[he] at h1
    go_wp2_with fail
    refine(Qda top b r.left N _ h1 hs).mono ?_;rintro e w2 ⟨rfl,h2,k2⟩;have kn:=run_convert_bytes_nil (P:=Tryz.prog) (w:=w2) 106 5 Tryz.underlying106 Tryz.underlying5 0 0 _ Tryz.underlying9
    go_wp2;go_ret;exact⟨rfl,h2,k1.step k2⟩
  ·have er:Wm.rRaw r.left N=⟨r.left.take N,r.left.drop N,0⟩:=by rw[Wm.rRaw,if_neg hs]
   rw[er];clear er;have hle:N<=r.left.length:=by omega
   rcases hm with⟨hm,rfl⟩|⟨hm,rfl⟩
   all_goals
    go_enter Tryz.func21,Tryz.ntmps21
    go_wp2_with fail
    refine(Hcall.out _ h ht).mono ?_;rintro e w1 ⟨rfl,h1,k1⟩;rw[he] at h1
    go_wp2_with fail
    refine(Qcq top b r.left N _ h1 hle).mono ?_;rintro e w2 ⟨ao,c,rfl,hsh,h2,k2⟩;have kn:=Qs9 w2 b N c ao _ hsh (by rw[List.length_take];omega)
    clear hsh;go_wp2;go_ret;exact⟨rfl,h2,k1.step k2⟩
 ·rw[if_neg he]
  have hv0:=(hf he).1;have hl0:=(hf he).2;obtain rfl:N=0:=by omega
  clear hf hv0 hNt hN
  rcases hm with⟨hm,rfl⟩|⟨hm,rfl⟩
  all_goals
   go_enter Tryz.func21,Tryz.ntmps21
   go_wp2_with fail
   refine(Hcall.out _ h ht).mono ?_;rintro e w1 ⟨rfl,h1,k1⟩;rw[hl0] at h1
   go_wp2_with fail
   refine(Qeh _ _ 0 _ (h1.failed he)).mono ?_;rintro e w2 ⟨rfl,rfl⟩;have kn:=run_convert_bytes_nil (P:=Tryz.prog) (w:=w1) 106 5 Tryz.underlying106 Tryz.underlying5 0 0 _ Tryz.underlying9
   go_wp2;go_ret;exact⟨rfl,h1,k1⟩
theorem Qt2 (top b:Nat)(l:List UInt8)(most:Int)(w:World)(h:Rd w top b l 0)(ht:Tab w)(hb0:0<b):
  Calls Tryz.prog 21 #[.pointer (some ⟨b,0,none⟩),.int .i64 most] w λe w'=>TextPost w top b (Wm.rText l most) e w':=
 Qv3 top b l most (min most 65536) (by omega) _ rfl w h ht hb0
def FlagPost (w:World)(top b:Nat)(r:Wm.Got Bool)(e:Ending)(w':World):Prop:=e=.returned (.bool r.val)/\Rd w' top b r.left r.err/\Kept w.heap.size b w w'
theorem Qos (p:Value)(x:Int)(w:World)(h:Failed w p x):Calls Tryz.prog 22 #[p] w λe w'=>e=.returned (.int .i64 x)/\w=w':=by
 have hx:(x != 0)=true:=by have:=h.1;simpa using this
 go_enter Tryz.func22,Tryz.ntmps22
 go_wp2_with (go_at_call 54;refine(Qk8 p x _ h).mono ?_;rintro e w' ⟨rfl,rfl⟩)
 go_ret;exact⟨rfl,rfl⟩
theorem Qv7 (b n c:Nat)(ao:Option Addr)(r:Int)(hr:(n=0/\r=0)\/(0<n/\r=4))(w:World)(c0:w.cell? ⟨b,0,none⟩=some (.slice ao n c))(c1:w.cell? ⟨b,1,none⟩=some (.int .i64 0)):
  Calls Tryz.prog 22 #[.pointer (some ⟨b,0,none⟩)] w λe w'=>e=.returned (.int .i64 r)/\w=w':=by
 rcases hr with⟨rfl,rfl⟩|⟨hn,rfl⟩
 all_goals
  go_enter Tryz.func22,Tryz.ntmps22
  go_wp2_with (go_at_call 54;refine(Qgt b 0 _ c1).mono ?_;rintro e w' ⟨rfl,rfl⟩)
  go_ret;exact⟨rfl,rfl⟩
theorem Qv6 (top b:Nat)(l:List UInt8)(w:World)(h:Rd w top b l 0):
  Calls Tryz.prog 22 #[.pointer (some ⟨b,0,none⟩)] w λe w'=>e=.returned (.int .i64 (if l=[] then 0 else 4))/\w=w':=by
 obtain⟨ao,c,hb,_⟩:=h.ex;refine Qv7 b l.length c ao _ ?_ w (Qac hb) (Qab hb)
 by_cases hl:l=[]
 ·exact .inl ⟨by rw[hl];rfl,zG hl⟩
 ·exact .inr ⟨List.length_pos_iff.2 hl,if_neg hl⟩
theorem Qb7:(Tryz.prog.info? 23).map (·.size)=some 32:=by kernel_rfl
theorem Qij:(Tryz.prog.info? 5).map (·.size)=some 1:=by kernel_rfl
theorem Qjn (w w2:World)(b:Nat)(z:Array Value)(hk:Kept w.heap.size b w w2)(hA:w2.heap[w.heap.size]?=some (.cells z 23 (0,0)))(c:Array Value):
  Kept w.heap.size b w (w2.setRow w.heap.size c)/\(w2.setRow w.heap.size c).heap[w.heap.size]?=some (.cells c 23 (0,0)):=
 ⟨hk.trans ⟨rfl,rfl,rfl,by simp[World.setRow],λk hk _=>setRow_other w2 w.heap.size k c (by omega)⟩,setRow_heap w2 w.heap.size z c _ _ hA⟩
theorem Qmz (p:Value)(x:Int)(w:World)(h:∀w',Kept w.heap.size w.heap.size w w'->Failed w' p x):Calls Tryz.prog 19 #[p] w λe w'=>e=.returned (.agg zY)/\Kept w.heap.size w.heap.size w w':=by
 go_enter Tryz.func19,Tryz.ntmps19
 go_wp2_with fail
 rw[Qao];have hs:=Qah;have h1:=Qeb;have hA:((w.alloc (.cells zY 23)).alloc (.cells zY 23)).heap[w.heap.size]?=some (.cells zY 23 (0,0)):=heap_alloc2_old w _ _
 have hB:((w.alloc (.cells zY 23)).alloc (.cells zY 23)).heap[w.heap.size+1]?=some (.cells zY 23 (0,0)):=heap_alloc2_new w _ _
 have hK:Kept w.heap.size w.heap.size w ((w.alloc (.cells zY 23)).alloc (.cells zY 23)):=(zI.alloc (zB _) _).alloc (by simp) _
 generalize hz:zY=z at hs h1 hA hB hK |-;have Hz:=hid hz;clear hz;generalize (w.alloc (.cells z 23)).alloc (.cells z 23)=w2 at hA hB hK |-
 refine(Qeh p x 32 _ (h _ hK)).mono ?_;rintro e w' ⟨rfl,rfl⟩
 go_wp2_with (first|(with_reducible refine wpList_copy_nothing rfl _ _ 106 106 rfl 5 Tryz.underlying106 Qij _ _ _ _ _ _ rfl rfl rfl ?_)|(with_reducible refine wpList_load_row rfl 23 _ rfl (w.heap.size+1) rfl 23 z (0,0) _ hB Tryz.underlying23 rfl (by rw[Qb7,hs]) ?_)|(with_reducible refine wpList_store_row rfl 23 _ _ rfl w.heap.size z rfl rfl 23 _ hA (by rw[Qb7,hs]) rfl h1 ?_))
 obtain⟨t1,t2⟩:=Qjn w w2 _ z hK hA z;refine bodyPost_ret (results_cell_row rfl _ _ w.heap.size 23 z (0,0) _ rfl t2 Tryz.underlying23 rfl (by rw[Qb7,hs])) rfl ?_
 rw[Hz.out];exact⟨rfl,t1⟩
theorem Qop (top b:Nat)(l:List UInt8)(w:World)(h:Rd w top b l 0)(hl:l.length<32):Calls Tryz.prog 19 #[.pointer (some ⟨b,0,none⟩)] w λe w'=>e=.returned (.agg zY)/\Rd w' top b [] 2/\Kept w.heap.size b w w':=by
 go_enter Tryz.func19,Tryz.ntmps19
 go_wp2_with fail
 rw[Qao];have hs:=Qah;have h1:=Qeb;have hA:((w.alloc (.cells zY 23)).alloc (.cells zY 23)).heap[w.heap.size]?=some (.cells zY 23 (0,0)):=heap_alloc2_old w _ _
 have hB:((w.alloc (.cells zY 23)).alloc (.cells zY 23)).heap[w.heap.size+1]?=some (.cells zY 23 (0,0)):=heap_alloc2_new w _ _
 have hK:Kept w.heap.size w.heap.size w ((w.alloc (.cells zY 23)).alloc (.cells zY 23)):=(zI.alloc (zB _) _).alloc (by simp) _
 generalize hz:zY=z at hs h1 hA hB hK |-;have Hz:=hid hz;clear hz;generalize (w.alloc (.cells z 23)).alloc (.cells z 23)=w2 at hA hB hK |-
 have hlt:=h.lt;have hle:=h.le;have hR:Rd w2 top b l 0:=h.kept hK hle hle;have hsz:=zF hB;refine(Qda top b l 32 _ hR hl).mono ?_;rintro e w3 ⟨rfl,h3,k3⟩;have hA:=(k3.block w.heap.size (by omega) (by omega)).trans hA
 have hB:=(k3.block (w.heap.size+1) (by omega) (by omega)).trans hB
 have hK:=(hK.mono (base':=w.heap.size) (b':=b) (zB _) (λk hk _=>by omega)).trans (k3.mono (by omega) (λ_ _ h=>h))
 go_wp2_with (first|(with_reducible refine wpList_copy_nothing rfl _ _ 106 106 rfl 5 Tryz.underlying106 Qij _ _ _ _ _ _ rfl rfl rfl ?_)|(with_reducible refine wpList_load_row rfl 23 _ rfl (w.heap.size+1) rfl 23 z (0,0) _ hB Tryz.underlying23 rfl (by rw[Qb7,hs]) ?_)|(with_reducible refine wpList_store_row rfl 23 _ _ rfl w.heap.size z rfl rfl 23 _ hA (by rw[Qb7,hs]) rfl h1 ?_))
 obtain⟨t1,t2⟩:=Qjn w w3 _ z hK hA z;refine bodyPost_ret (results_cell_row rfl _ _ w.heap.size 23 z (0,0) _ rfl t2 Tryz.underlying23 rfl (by rw[Qb7,hs])) rfl ?_
 have t3:Kept w3.heap.size w.heap.size w3 (w3.setRow w.heap.size z):=⟨rfl,rfl,rfl,by simp[World.setRow],λk _ hk=>setRow_other w3 w.heap.size k z hk⟩
 have hz3:=k3.size;rw[Hz.out];exact⟨rfl,h3.kept t3 (Nat.le_trans hle (by omega)) (by omega),t1⟩
theorem Qrj (z cs:List Value)(h:z.length=cs.length):splice z 0 cs=cs:=by
 simp[splice,<-h]
theorem Qv4 (top b:Nat)(l:List UInt8)(w:World)(h:Rd w top b l 0)(hl:32<=l.length):Calls Tryz.prog 19 #[.pointer (some ⟨b,0,none⟩)] w λe w'=>e=.returned (.agg (bY (l.take 32)).toArray)/\Rd w' top b (l.drop 32) 0/\Kept w.heap.size b w w':=by
 go_enter Tryz.func19,Tryz.ntmps19
 go_wp2_with fail
 rw[Qao];have hs:=Qah;have hA:((w.alloc (.cells zY 23)).alloc (.cells zY 23)).heap[w.heap.size]?=some (.cells zY 23 (0,0)):=heap_alloc2_old w _ _
 have hB:((w.alloc (.cells zY 23)).alloc (.cells zY 23)).heap[w.heap.size+1]?=some (.cells zY 23 (0,0)):=heap_alloc2_new w _ _
 have hK:Kept w.heap.size w.heap.size w ((w.alloc (.cells zY 23)).alloc (.cells zY 23)):=(zI.alloc (zB _) _).alloc (by simp) _
 generalize hz:zY=z at hs hA hB hK |-;clear hz;generalize (w.alloc (.cells z 23)).alloc (.cells z 23)=w2 at hA hB hK |-
 have hlt:=h.lt;have hle:=h.le;have hR:Rd w2 top b l 0:=h.kept hK hle hle;have hsz:=zF hB;refine(Qcq top b l 32 _ hR hl).mono ?_;rintro e w3 ⟨ao,c,rfl,hsh,h3,k3⟩;have hA:=(k3.block w.heap.size (by omega) (by omega)).trans hA
 have hB:=(k3.block (w.heap.size+1) (by omega) (by omega)).trans hB
 have hK:=(hK.mono (base':=w.heap.size) (b':=b) (zB _) (λk hk _=>by omega)).trans (k3.mono (by omega) (λ_ _ h=>h))
 have hl32:(l.take 32).length=32:=by rw[List.length_take];omega
 obtain⟨g,o,rfl,_,_,hcell⟩:=hsh (by omega)
 have hsrc:∀j v,(bY (l.take 32))[j]?=some v->w3.cell? (Addr.add ⟨g,o,none⟩ j)=some v:=λj v hv=>by
  have hj:j<(l.take 32).length:=by
   rcases Nat.lt_or_ge j (l.take 32).length with h'|h'
   ·exact h'
   ·rw[List.getElem?_eq_none (by rw[bZ];exact h')] at hv;cases hv
  rw[Qbq _ _ hj] at hv
  cases hv
  rw[Addr.add_lit];exact hcell j hj
 clear hsh hcell;have hcs:(bY (l.take 32)).length=32:=by rw[bZ,hl32]
 have hone:=Qan (l.take 32);have hall:=Qae (l.take 32);generalize hq:bY (l.take 32)=cs at hsrc hcs hone hall;have Hq:=hid hq;clear hq;have hzl:z=z.toList.toArray:=by simp
 rw[hzl] at hB;clear hzl
 go_wp2_with (with_reducible refine wpList_copy_splice rfl _ _ 106 106 rfl 5 Tryz.underlying106 Qij _ _ _ _ _ _ rfl rfl (w.heap.size+1) 0 z.toList 23 hB cs ?c1 (λ_=>⟨rfl,⟨g,o,none⟩,rfl,hsrc⟩) ?c2 hone (w.heap.size+1) w3 (Below.refl _ _) (zB _) ?_)
 case c1=>exact hcs
 case c2=>
  have e1:z.toList.length=32:=by rw[Array.length_toList];exact hs
  have e2:cs.toArray.size=32:=by simpa using hcs
  omega
 intro w4 Hrow hbel;have hB4:=Hrow.out;rw[Qrj z.toList cs (by rw[Array.length_toList,hs,hcs])] at hB4
 have hA4:=(hbel.block w.heap.size (by omega)).trans hA
 have k4:Kept (w.heap.size+1) (w.heap.size+1) w3 w4:=Kept.ofBelow hbel (zB _);have h4:=h3.kept k4 (by omega) (by omega)
 have hK4:=hK.trans (k4.mono (base':=w.heap.size) (b':=b) (by omega) (λk hk _=>by omega))
 have hsc:cs.toArray.size=32:=by simpa using hcs
 clear Hrow hbel hA hB hK
 go_wp2_with (first|(with_reducible refine wpList_load_row rfl 23 _ rfl (w.heap.size+1) rfl 23 cs.toArray (0,0) _ hB4 Tryz.underlying23 rfl (by rw[Qb7,hsc]) ?_)|(with_reducible refine wpList_store_row rfl 23 _ _ rfl w.heap.size cs.toArray rfl rfl 23 _ hA4 (by rw[Qb7,hsc]) (by rw[hs,hsc]) hall ?_))
 obtain⟨t1,t2⟩:=Qjn w w4 _ z hK4 hA4 cs.toArray;refine bodyPost_ret (results_cell_row rfl _ _ w.heap.size 23 cs.toArray (0,0) _ rfl t2 Tryz.underlying23 rfl (by rw[Qb7,hsc])) rfl ?_
 have t3:Kept w4.heap.size w.heap.size w4 (w4.setRow w.heap.size cs.toArray):=⟨rfl,rfl,rfl,by simp[World.setRow],λk _ hk=>setRow_other w4 w.heap.size k _ hk⟩
 have hz3:=k3.size;have hz4:=k4.size;rw[Hq.out];exact⟨rfl,h4.kept t3 (by omega) (by omega),t1⟩
theorem Qd8 (w:World)(cells:Array Value)(t:TypeId)(l:List UInt8)(n:Nat)(hn:l.length=n)(hc:cells=(bY l).toArray):
  (convert 106 9 (.slice (some ⟨w.heap.size,0,none⟩) n n)).run Tryz.prog (w.alloc (.cells cells t))=.ok (.string (str l)) (w.alloc (.cells cells t)):=by
 subst hn;subst hc;exact run_convert_bytes_back (w.alloc (.cells (bY l).toArray t)) _ _ _ ⟨w.heap.size,0,none⟩ _ l Tryz.underlying106 Tryz.underlying5 Tryz.underlying9 (Qn2 w l t)
theorem Qch (x:Int)(m:Nat)(h:x=((m%256:Nat):Int)):Value.int .u8 x=Value.int .u8 ((UInt8.ofNat m).toNat:Int):=by
 rw[h,UInt8.toNat_ofNat']
theorem lit1 (x0:Int)(m:Nat)(h0:x0=((m%256:Nat):Int)): #[Value.int .u8 x0]=(bY (Wm.be m 1)).toArray:=by
 rw[Qch x0 _ h0];simp[bY,Wm.be]
theorem lit2 (x0 x1:Int)(m:Nat)(h0:x0=((m/256%256:Nat):Int))(h1:x1=((m%256:Nat):Int)): #[Value.int .u8 x0,Value.int .u8 x1]=(bY (Wm.be m 2)).toArray:=by
 rw[Qch x0 _ h0,Qch x1 _ h1]
 simp[bY,Wm.be]
theorem lit4 (x0 x1 x2 x3:Int)(m:Nat)(h0:x0=((m/16777216%256:Nat):Int))(h1:x1=((m/65536%256:Nat):Int))(h2:x2=((m/256%256:Nat):Int))(h3:x3=((m%256:Nat):Int)):
  #[Value.int .u8 x0,Value.int .u8 x1,Value.int .u8 x2,Value.int .u8 x3]=(bY (Wm.be m 4)).toArray:=by
 rw[Qch x0 _ h0,Qch x1 _ h1,Qch x2 _ h2,Qch x3 _ h3]
 simp[bY,Wm.be]
theorem lit8 (x0 x1 x2 x3 x4 x5 x6 x7:Int)(m:Nat)(h0:x0=((m/72057594037927936%256:Nat):Int))(h1:x1=((m/281474976710656%256:Nat):Int))(h2:x2=((m/1099511627776%256:Nat):Int))(h3:x3=((m/4294967296%256:Nat):Int))
  (h4:x4=((m/16777216%256:Nat):Int)) (h5:x5=((m/65536%256:Nat):Int)) (h6:x6=((m/256%256:Nat):Int)) (h7:x7=((m%256:Nat):Int)) :
  #[Value.int .u8 x0,Value.int .u8 x1,Value.int .u8 x2,Value.int .u8 x3,Value.int .u8 x4,Value.int .u8 x5,Value.int .u8 x6,Value.int .u8 x7]=(bY (Wm.be m 8)).toArray:=by
 rw[Qch x0 _ h0,Qch x1 _ h1,Qch x2 _ h2,Qch x3 _ h3,Qch x4 _ h4,Qch x5 _ h5,Qch x6 _ h6,Qch x7 _ h7]
 simp[bY,Wm.be]
theorem Qwb (n:Nat)(w:World)(h:n<64):Calls Tryz.prog 56 #[.int .i64 n] w λe w'=>e=.returned (.string (str (Wm.be n 1)))/\Kept w.heap.size w.heap.size w w':=by
 have L:=hid (lit1 n n (by omega))
 go_enter Tryz.func56,Tryz.ntmps56
 go_wp2_with fail
 rw[Qd8 w _ _ (Wm.be n 1) 1 (Wm.be_length _ _) L.out];clear L;go_wp2;go_ret;exact⟨rfl,zI.alloc (zB _) _⟩
theorem Qwa (n:Nat)(w:World)(hm:n<=16383)(hb0:decide ((n:Int)<64)=false)(hb1:decide ((n:Int)<16384)=true):Calls Tryz.prog 56 #[.int .i64 n] w λe w'=>e=.returned (.string (str (Wm.be (16384+n) 2)))/\Kept w.heap.size w.heap.size w w':=by
 have L:=hid (lit2 (64+(n:Int)/256) ((n:Int)%256) (16384+n) (by omega) (by omega))
 go_enter Tryz.func56,Tryz.ntmps56
 go_wp2_with fail
 rw[Qd8 w _ _ (Wm.be (16384+n) 2) 2 (Wm.be_length _ _) L.out];clear L;go_wp2;go_ret;exact⟨rfl,zI.alloc (zB _) _⟩
theorem Qv9 (n:Nat)(w:World)(hm:n<=4611686018427387903)(hb0:decide ((n:Int)<64)=false)(hb1:decide ((n:Int)<16384)=false)(hb2:decide ((n:Int)<1073741824)=true):Calls Tryz.prog 56 #[.int .i64 n] w λe w'=>e=.returned (.string (str (Wm.be (2147483648+n) 4)))/\Kept w.heap.size w.heap.size w w':=by
 have L:=hid (lit4 ((128+(n:Int)/16777216)%256) ((n:Int)/65536%256) ((n:Int)/256%256) ((n:Int)%256) (2147483648+n) (by omega) (by omega) (by omega) (by omega))
 go_enter Tryz.func56,Tryz.ntmps56
 go_wp2_with fail
 rw[Qd8 w _ _ (Wm.be (2147483648+n) 4) 4 (Wm.be_length _ _) L.out];clear L;go_wp2;go_ret;exact⟨rfl,zI.alloc (zB _) _⟩
theorem Qv8 (n:Nat)(w:World)(hm:n<=4611686018427387903)(hb0:decide ((n:Int)<64)=false)(hb1:decide ((n:Int)<16384)=false)(hb2:decide ((n:Int)<1073741824)=false):Calls Tryz.prog 56 #[.int .i64 n] w λe w'=>e=.returned (.string (str (Wm.be (13835058055282163712+n) 8)))/\Kept w.heap.size w.heap.size w w':=by
 have L:=hid (lit8 ((n:Int)/256/256/256/256/256/256/256%256+192) ((n:Int)/256/256/256/256/256/256%256) ((n:Int)/256/256/256/256/256%256) ((n:Int)/256/256/256/256%256) ((n:Int)/256/256/256%256) ((n:Int)/256/256%256) ((n:Int)/256%256) ((n:Int)%256)
  (13835058055282163712+n) (by omega) (by omega) (by omega) (by omega) (by omega) (by omega) (by omega) (by omega))
 go_enter Tryz.func56,Tryz.ntmps56
 go_wp2;refine wp_loop_rounds 9 ?_;rw[rounds_succ];go_wp2;iterate 8(rw[rounds_succ];go_wp2)
 rw[Qd8 w _ _ (Wm.be (13835058055282163712+n) 8) 8 (Wm.be_length _ _) L.out];clear L;go_wp2;go_ret;exact⟨rfl,zI.alloc (zB _) _⟩
theorem refnum (n:Nat)(w:World)(hm:n<=4611686018427387903):Calls Tryz.prog 56 #[.int .i64 n] w λe w'=>e=.returned (.string (str (Wm.enc n)))/\Kept w.heap.size w.heap.size w w':=by
 unfold Wm.enc
 by_cases h1:n<64
 ·rw[zG h1];exact Qwb n w h1
 ·rw[if_neg h1]
  have b0:decide ((n:Int)<64)=false:=by rw[decide_eq_false_iff_not];omega
  by_cases h2:n<16384
  ·rw[zG h2];exact Qwa n w (by omega) b0 (by rw[decide_eq_true_iff];omega)
  ·rw[if_neg h2]
   have b1:decide ((n:Int)<16384)=false:=by rw[decide_eq_false_iff_not];omega
   by_cases h3:n<1073741824
   ·rw[zG h3];exact Qv9 n w hm b0 b1 (by rw[decide_eq_true_iff];omega)
   ·rw[if_neg h3];exact Qv8 n w hm b0 b1 (by rw[decide_eq_false_iff_not];omega)
theorem reftext (s:ByteArray)(w:World)(hs:s.size<=65536):Calls Tryz.prog 36 #[.string s] w λe w'=>e=.returned (.string (str (Wm.enc s.size++s.data.toList)))/\Kept w.heap.size w.heap.size w w':=by
 have hle:=Wm.enc_length_le s.size
 go_enter Tryz.func36,Tryz.ntmps36
 go_wp2_with fail
 refine(refnum s.size _ (by omega)).mono ?_
 rintro e w1 ⟨rfl,k1⟩;go_wp2;go_ret;refine⟨?_,k1⟩;rw[<-Qa5,Qxu]
 rfl
theorem refhash (x:List UInt8)(hx:x.length=32)(w:World):Calls Tryz.prog 64 #[.agg (bY x).toArray] w λe w'=>e=.returned (.string (str x))/\Kept w.heap.size w.heap.size w w':=by
 go_enter Tryz.func64,Tryz.ntmps64
 go_wp2;rw[Qd8 w _ _ x 32 hx rfl];go_wp2;go_ret;exact⟨rfl,zI.alloc (zB _) _⟩
end Go.Proofs.YtnlbgggnpoeleaaGreatDoor
