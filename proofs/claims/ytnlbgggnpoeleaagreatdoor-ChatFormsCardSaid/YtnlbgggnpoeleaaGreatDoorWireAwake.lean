/-
 WireAwake; WireAll; WireThing; WireOpen; WireFew; WireNilLaw; WireRefRd; WireRefNum; WireRefAll; WireRefMore; WireRefHash: several texts in one.
-/
import Derived.Test.YtnlbgggnpoeleaaGreatDoorWireLaid
set_option maxHeartbeats 3200000
set_option maxRecDepth 100000
namespace Go.Proofs.YtnlbgggnpoeleaaGreatDoor
open Go.RowKit
def gNum (l:List UInt8)(e:Int)(most:Int):Wm.Got Int:=if e=0 then Wm.rNum l most else⟨0,[],e⟩
def gText (l:List UInt8)(e:Int)(most:Int):Wm.Got (List UInt8):=if e=0 then Wm.rText l most else⟨[],[],e⟩
def gHash (l:List UInt8)(e:Int):Wm.Got (List UInt8):=if e=0 then(if l.length<32 then⟨List.replicate 32 0,[],2⟩ else⟨l.take 32,l.drop 32,0⟩) else⟨List.replicate 32 0,[],e⟩
def gFlag (l:List UInt8)(e:Int):Wm.Got Bool:=if e=0 then Wm.rFlag l else⟨false,[],e⟩
def gEnd (l:List UInt8)(e:Int):Int:=if e=0 then(if l=[] then 0 else 4) else e
theorem Qfb (l:List UInt8)(e:Int):(gHash l e).val.length=32:=by
 unfold gHash
 split
 ·split
  ·rfl
  ·simp;omega
 ·rfl
def HashPost (w:World)(top b:Nat)(r:Wm.Got (List UInt8))(e:Ending)(w':World):Prop:=e=.returned (.agg (bY r.val).toArray)/\Rd w' top b r.left r.err/\Kept w.heap.size b w w'
theorem Qpa (top b:Nat)(l:List UInt8)(e0 most:Int)(w:World)(h:Rd w top b l e0)(ht:Tab w)(hb0:0<b):
  Calls Tryz.prog 20 #[.pointer (some ⟨b,0,none⟩),.int .i64 most] w λe w'=>NumPost w top b (gNum l e0 most) e w':=by
 unfold gNum
 split
 ·rename_i he
  subst he;exact Quh top b l most w h ht hb0
 ·rename_i he
  obtain rfl:=h.fail he;refine(Qk0 _ e0 most w (h.failed he)).mono ?_;rintro e w' ⟨rfl,rfl⟩;exact⟨rfl,h,Kept.refl _ _ _⟩
theorem Qvz (top b:Nat)(l:List UInt8)(e0 most:Int)(w:World)(h:Rd w top b l e0)(ht:Tab w)(hb0:0<b):
  Calls Tryz.prog 21 #[.pointer (some ⟨b,0,none⟩),.int .i64 most] w λe w'=>TextPost w top b (gText l e0 most) e w':=by
 unfold gText
 split
 ·rename_i he
  subst he;exact Qt2 top b l most w h ht hb0
 ·rename_i he
  obtain rfl:=h.fail he;refine(Qmy _ e0 most w (h.failed he)).mono ?_;rintro e w' ⟨rfl,rfl⟩;exact⟨rfl,h,Kept.refl _ _ _⟩
theorem Qwn (top b:Nat)(l:List UInt8)(e0:Int)(w:World)(h:Rd w top b l e0):
  Calls Tryz.prog 19 #[.pointer (some ⟨b,0,none⟩)] w λe w'=>HashPost w top b (gHash l e0) e w':=by
 unfold gHash
 split
 ·rename_i he
  subst he
  split
  ·rename_i hl
   exact Qop top b l w h hl
  ·rename_i hl
   exact Qv4 top b l w h (by omega)
 ·rename_i he
  obtain rfl:=h.fail he;have hle:=h.le;have hlt:=h.lt;refine(Qmz _ e0 w (λw' k=>(h.kept k hle hle).failed he)).mono ?_
  rintro e w' ⟨rfl,k⟩;exact⟨rfl,h.kept k hle hle,k.mono (zB _) (λi hi _=>by omega)⟩
theorem Qxo (top b:Nat)(l:List UInt8)(e0:Int)(w:World)(h:Rd w top b l e0):
  Calls Tryz.prog 22 #[.pointer (some ⟨b,0,none⟩)] w λe w'=>e=.returned (.int .i64 (gEnd l e0))/\w=w':=by
 unfold gEnd
 split
 ·rename_i he
  subst he;exact Qv6 top b l w h
 ·rename_i he
  exact Qos _ e0 w (h.failed he)
structure Th where
 kind:Nat
 n:Int
 s:ByteArray
 h:List UInt8
 b:Bool
structure Th.Ok (t:Th):Prop where
 kind:t.kind<256
 s:t.s.size<=9223372036854775807
 h:t.h.length=32
def Th.cells (t:Th):List Value:=.int .u8 t.kind::.int .i64 t.n::.string t.s::(bY t.h++[.bool t.b])
def Th.bytes (t:Th):Option (List UInt8):=
 if t.kind%4=0 then(if 0<=t.n/\t.n<=4611686018427387903 then some (Wm.enc t.n.toNat) else none)
 else if t.kind%4=1 then(if t.s.size<=65536 then some (Wm.enc t.s.size++t.s.data.toList) else none)
 else if t.kind%4=2 then some t.h else some [if t.b then 1 else 0]
def pTh (st:Option (List UInt8))(t:Th):Option (List UInt8):=t.bytes.bind λx=>st.map (· ++ x)
theorem Th.cells_length (t:Th)(h:t.Ok):t.cells.length=36:=by
 simp[Th.cells,bZ,h.h]
def PutPost (w:World)(base b:Nat)(p:Value)(st:Option (List UInt8))(t:Th)(e:Ending)(w':World):Prop:=
 e=.returned (.tuple #[.string (str (t.bytes.getD [])),.bool t.bytes.isSome])/\WrV w' base b p (pTh st t)/\Kept base b w w'
open Go.ChangeShapes Go.WideShapes Go.ChangeAt Go.RowKit Go.Deep
section
variable {H:Type} {enc:TypeId × Value->H} {w:World} {base:Nat} {spare:Nat->Bool} {held:Bool}
instance:Inhabited Th:=⟨⟨0,0,ByteArray.empty,[],false⟩⟩
structure Things (w:World) (v:Value) (len:Nat) (T:Nat->Th):Prop where
 lenLe:len<=9223372036854775807
 ok:∀i,i<len->(T i).Ok
 ex:∃ao cap,v=.slice ao len cap/\(0<len->∃g o,ao=some ⟨g,o,none⟩/\g<w.heap.size/\∀i,i<len->w.rangeAt g (o+i*36) (T i).cells)
end
def FewPost (w:World)(len:Nat)(e:Ending)(w':World):Prop:=∃bb:Bool,e=.returned (.bool bb)/\(bb=true->len<=300)/\w=w'
theorem Things.same {w w':World}{v:Value}{len:Nat}{T:Nat->Th}(h:Things w v len T)(k:Kept w.heap.size w.heap.size w w'):Things w' v len T:=by
 obtain⟨ao,cap,rfl,hex⟩:=h.ex;refine⟨h.lenLe,h.ok,ao,cap,rfl,λhpos=>?_⟩
 obtain⟨g,o,rfl,hg,hr⟩:=hex hpos;refine⟨g,o,rfl,zC hg k.size,λi hi j u hu=>?_⟩
 rw[k.cell (p:=⟨g,o+i*36+j,none⟩) hg (by show g≠w.heap.size;omega)]
 exact hr i hi j u hu
structure Rf (w:World) (c:Nat) (l:List UInt8) (e:Int):Prop where
 ex:∃s,w.heap[c]?=some (.cells #[.string s,.int .i64 e] 70 (0,0))/\(e=0->s=str l)
 fail:e≠0->l=[]
theorem Rf.same {w w':World}{c:Nat}{l:List UInt8}{e:Int}(h:Rf w c l e)(hb:w'.heap[c]?=w.heap[c]?):Rf w' c l e:=by
 obtain⟨s,h1,h2⟩:=h.ex;exact⟨⟨s,hb.trans h1,h2⟩,h.fail⟩
theorem Rf.lt {w:World}{c:Nat}{l:List UInt8}{e:Int}(h:Rf w c l e):c<w.heap.size:=by
 obtain⟨s,h1,_⟩:=h.ex;exact(Array.getElem?_eq_some_iff.1 h1).1
theorem Rf.kept {w w':World}{c base r:Nat}{l:List UInt8}{e:Int}(h:Rf w c l e)(k:Kept base r w w')(hB:c<base)(hr:c≠r):Rf w' c l e:=
 h.same (k.block c hB hr)
theorem Rf.alloc {w:World}{c:Nat}{l:List UInt8}{e:Int}(h:Rf w c l e)(o:Obj):Rf (w.alloc o) c l e:=h.same (Below.heap_alloc _ _ _ h.lt)
theorem Rf.err {w:World}{c:Nat}{l:List UInt8}{e:Int}(h:Rf w c l e):w.cell? ⟨c,1,none⟩=some (.int .i64 e):=by
 obtain⟨s,h1,_⟩:=h.ex;exact Qab h1
theorem Rf.setErr {w:World}{c:Nat}{s:ByteArray}{x:Value}(e:Int)(he:e≠0)(h:w.heap[c]?=some (.cells #[.string s,x] 70 (0,0))):Rf (w.setCell ⟨c,1,none⟩ (.int .i64 e)) c [] e:=
 ⟨⟨s,Qds h,λh=>absurd h he⟩,λ_=>rfl⟩
def StrPost (w:World)(c:Nat)(r:Wm.Got (List UInt8))(e:Ending)(w':World):Prop:=e=.returned (.string (str r.val))/\Rf w' c r.left r.err/\Kept w.heap.size c w w'
def gRaw (l:List UInt8)(e:Int)(n:Nat):Wm.Got (List UInt8):=if e=0 then Wm.rRaw l n else⟨[],[],e⟩
theorem Qls (c:Nat)(l:List UInt8)(e0:Int)(n:Int)(w:World)(h:Rf w c l e0)(he:e0≠0):
  Calls Tryz.prog 55 #[.pointer (some ⟨c,0,none⟩),.int .i64 n] w λe w'=>e=.returned (.string (str []))/\w=w':=by
 have hx:(e0 != 0)=true:=by simpa using he
 have c1:=h.err;clear h
 go_enter Tryz.func55,Tryz.ntmps55
 go_wp2;go_ret;exact⟨rfl,rfl⟩
theorem Qm0 (c:Nat)(s:ByteArray)(n:Nat)(w:World)(h0:w.cell? ⟨c,0,none⟩=some (.string s))(h1:w.cell? ⟨c,1,none⟩=some (.int .i64 0))(f1:w.frozen? ⟨c,1,none⟩=false)(hs:s.size<n):
  Calls Tryz.prog 55 #[.pointer (some ⟨c,0,none⟩),.int .i64 n] w λe w'=>e=.returned (.string (str []))/\w.setCell ⟨c,1,none⟩ (.int .i64 2)=w':=by
 go_enter Tryz.func55,Tryz.ntmps55
 go_wp2;go_ret;exact⟨rfl,rfl⟩
theorem Qt4 (c:Nat)(s:ByteArray)(n:Nat)(w:World)(h0:w.cell? ⟨c,0,none⟩=some (.string s))(h1:w.cell? ⟨c,1,none⟩=some (.int .i64 0))(f0:w.frozen? ⟨c,0,none⟩=false)(hs:n<=s.size):
  Calls Tryz.prog 55 #[.pointer (some ⟨c,0,none⟩),.int .i64 n] w λe w'=>e=.returned (.string (s.extract 0 n))/\w.setCell ⟨c,0,none⟩ (.string (s.extract n s.size))=w':=by
 have h9:¬s.size<n:=by omega
 go_enter Tryz.func55,Tryz.ntmps55
 go_wp2;go_ret;exact⟨rfl,rfl⟩
theorem Qkt (c:Nat)(l:List UInt8)(e0:Int)(n:Nat)(w:World)(h:Rf w c l e0):
  Calls Tryz.prog 55 #[.pointer (some ⟨c,0,none⟩),.int .i64 n] w λe w'=>StrPost w c (gRaw l e0 n) e w':=by
 unfold gRaw
 split
 ·rename_i he
  subst he;obtain⟨s,hb,hs⟩:=h.ex;obtain rfl:=hs rfl;unfold Wm.rRaw
  split
  ·rename_i hlt
   refine(Qm0 c (str l) n w (Qac hb) (Qab hb) (Qay hb 1) (by rw[Qai];exact hlt)).mono ?_
   rintro e w' ⟨rfl,rfl⟩;exact⟨rfl,Rf.setErr 2 (by decide) hb,zI.set (.inl rfl) 1 _⟩
  ·rename_i hlt
   refine(Qt4 c (str l) n w (Qac hb) (Qab hb) (Qay hb 0) (by rw[Qai];omega)).mono ?_
   rintro e w' ⟨rfl,rfl⟩;exact⟨by rw[Qlk],⟨⟨_,Qbc hb,λ_=>Qll l n⟩,λh=>absurd rfl h⟩,zI.set (.inl rfl) 0 _⟩
 ·rename_i he
  obtain rfl:=h.fail he;refine(Qls c _ e0 n w h he).mono ?_;rintro e w' ⟨rfl,rfl⟩;exact⟨rfl,h,Kept.refl _ _ _⟩
theorem Qnc (c:Nat)(e0:Int)(most:Int)(w:World)(c1:w.cell? ⟨c,1,none⟩=some (.int .i64 e0))(hx:(e0 != 0)=true):
  Calls Tryz.prog 24 #[.pointer (some ⟨c,0,none⟩),.int .i64 most] w λe w'=>e=.returned (.int .i64 0)/\w=w':=by
 go_enter Tryz.func24,Tryz.ntmps24
 go_wp2;go_ret;exact⟨rfl,rfl⟩
theorem Qo6 (c:Nat)(most:Int)(w:World)(c0:w.cell? ⟨c,0,none⟩=some (.string (str [])))(c1:w.cell? ⟨c,1,none⟩=some (.int .i64 0))(f1:w.frozen? ⟨c,1,none⟩=false):
  Calls Tryz.prog 24 #[.pointer (some ⟨c,0,none⟩),.int .i64 most] w λe w'=>e=.returned (.int .i64 0)/\w.setCell ⟨c,1,none⟩ (.int .i64 2)=w':=by
 have hz:(str []).size=0:=rfl
 go_enter Tryz.func24,Tryz.ntmps24
 go_wp2;go_ret;exact⟨rfl,rfl⟩
open Go.Lib (hid)
structure NumAcc (s:ByteArray) (F K:Nat) (A:Nat->Int):Prop where
 one:A 1=(F:Int)%64
 step:∀j (h:j<s.size),1<=j->j<K->A (j+1)=A j*256+((s[j]'h).toNat:Int)
 bound:∀j,1<=j->j<K->0<=A j/\A j<18014398509481984
def NumRd (w:World)(c:Nat)(s:ByteArray)(K m:Nat)(x:Int)(e:Ending)(w':World):Prop:=
 ∃w2,Kept w.heap.size w.heap.size (w.setCell ⟨c,0,none⟩ (.string (s.extract K s.size))) w2/\((x=0/\e=.returned (.int .i64 m)/\w2=w')\/(x≠0/\e=.returned (.int .i64 0)/\w2.setCell ⟨c,1,none⟩ (.int .i64 x)=w'))
theorem Qo5 (c:Nat)(s:ByteArray)(F:Nat)(most:Int)(w:World)(hb:w.heap[c]?=some (.cells #[.string s,.int .i64 0] 70 (0,0)))(_hz:(s.size == 0)=false)(hz2:0<s.size)
  (hF:Hid (wrap64 ((s[0]'hz2).toNat:Int)=(F:Int))) (hlo:0<=F) (hhi:F<64) (_hs:¬s.size<1) (_hs2:1<=s.size) (A:Nat->Int) (hA:NumAcc s F 1 A) (m:Nat) (hm:Hid (A 1=(m:Int))) (hm2:Hid (m<=4611686018427387903)) (x:Int)
  (B:List UInt8) (hB:Hid (s.extract 0 1=str B)) (hx:Hid ((x=3/\(Wm.enc m == B)=false)\/(x=5/\(Wm.enc m == B)=true/\most<(m:Int))\/(x=0/\(Wm.enc m == B)=true/\(m:Int)<=most))) :
  Calls Tryz.prog 24 #[.pointer (some ⟨c,0,none⟩),.int .i64 most] w λe w'=>NumRd w c s 1 m x e w':=by
 have H1:=hid hA.one;have H2:=hid hA.step;have H3:=hid hA.bound;clear hA;obtain⟨w1,hw1⟩:∃w1,w1=w.setCell ⟨c,0,none⟩ (.string (s.extract 1 s.size)):=⟨_,rfl⟩;have Hw1:=hid hw1;have c0:=Qac hb;have c1:=Qab hb;have f0:=Qay hb 0;have f1:=Qay hb 1;have d1:w1.cell? ⟨c,1,none⟩=some (.int .i64 0):=by rw[hw1];exact Qab (Qbc hb)
 have g1:w1.frozen? ⟨c,1,none⟩=false:=by rw[hw1];exact Qay (Qbc hb) 1
 have hs1:w1.heap.size=w.heap.size:=by rw[hw1];simp[World.setCell]
 have hc1:c<w1.heap.size:=by rw[hs1];exact(Array.getElem?_eq_some_iff.1 hb).1
 have Hs1:=hid hs1;clear hw1 hb hs1
 go_enter Tryz.func24,Tryz.ntmps24
 go_wp2;rw[hF.out];clear hF;refine wp_loop_rounds 1 ?_;rw[rounds_succ];go_wp2;have hFm:(F:Int)%64=(m:Int):=H1.out.symm.trans hm.out;refine wp_loop_rounds 1 ?_;rw[rounds_succ]
 go_wp2_with fail
 rw[hFm];clear hFm;rw[<-Hw1.out,hB.out];refine(refnum m w1 hm2.out).mono ?_;rintro e w2 ⟨rfl,k2⟩;have d2:w2.cell? ⟨c,1,none⟩=some (.int .i64 0):=(k2.cell (p:=⟨c,1,none⟩) hc1 (by show c≠_;omega)).trans d1
 have g2:w2.frozen? ⟨c,1,none⟩=false:=(k2.frozen (p:=⟨c,1,none⟩) hc1 (by show c≠_;omega)).trans g1
 clear d1 g1;rw[Hs1.out,Hw1.out] at k2;have hx9:=hx.out;clear hx
 rcases hx9 with⟨rfl,hne⟩|⟨rfl,hne,hmo⟩|⟨rfl,hne,hmo⟩
 ·go_wp2
  go_ret;exact⟨w2,k2,.inr ⟨by decide,rfl,rfl⟩⟩
 ·go_wp2
  go_ret;exact⟨w2,k2,.inr ⟨by decide,rfl,rfl⟩⟩
 ·go_wp2
  go_ret;exact⟨w2,k2,.inl ⟨rfl,rfl,rfl⟩⟩
theorem Qnb (c:Nat)(s:ByteArray)(F:Nat)(most:Int)(w:World)(c0:w.cell? ⟨c,0,none⟩=some (.string s))(c1:w.cell? ⟨c,1,none⟩=some (.int .i64 0))(f1:w.frozen? ⟨c,1,none⟩=false)(_hz:(s.size == 0)=false)(hz2:0<s.size)
  (hF:Hid (wrap64 ((s[0]'hz2).toNat:Int)=(F:Int))) (hlo:64<=F) (hhi:F<128) (hs:s.size<2) :
  Calls Tryz.prog 24 #[.pointer (some ⟨c,0,none⟩),.int .i64 most] w λe w'=>e=.returned (.int .i64 0)/\w.setCell ⟨c,1,none⟩ (.int .i64 2)=w':=by
 go_enter Tryz.func24,Tryz.ntmps24
 go_wp2;rw[hF.out];clear hF;refine wp_loop_rounds 2 ?_;rw[rounds_succ];go_wp2;iterate 1(rw[rounds_succ];go_wp2)
 go_ret;exact⟨rfl,rfl⟩
theorem Qo4 (c:Nat)(s:ByteArray)(F:Nat)(most:Int)(w:World)(hb:w.heap[c]?=some (.cells #[.string s,.int .i64 0] 70 (0,0)))(_hz:(s.size == 0)=false)(hz2:0<s.size)
  (hF:Hid (wrap64 ((s[0]'hz2).toNat:Int)=(F:Int))) (hlo:64<=F) (hhi:F<128) (hs:¬s.size<2) (_hs2:2<=s.size) (A:Nat->Int) (hA:NumAcc s F 2 A) (m:Nat) (hm:Hid (A 2=(m:Int))) (hm2:Hid (m<=4611686018427387903)) (x:Int)
  (B:List UInt8) (hB:Hid (s.extract 0 2=str B)) (hx:Hid ((x=3/\(Wm.enc m == B)=false)\/(x=5/\(Wm.enc m == B)=true/\most<(m:Int))\/(x=0/\(Wm.enc m == B)=true/\(m:Int)<=most))) :
  Calls Tryz.prog 24 #[.pointer (some ⟨c,0,none⟩),.int .i64 most] w λe w'=>NumRd w c s 2 m x e w':=by
 have H1:=hid hA.one;have H2:=hid hA.step;have H3:=hid hA.bound;clear hA;obtain⟨w1,hw1⟩:∃w1,w1=w.setCell ⟨c,0,none⟩ (.string (s.extract 2 s.size)):=⟨_,rfl⟩;have Hw1:=hid hw1;have c0:=Qac hb;have c1:=Qab hb;have f0:=Qay hb 0;have f1:=Qay hb 1;have d1:w1.cell? ⟨c,1,none⟩=some (.int .i64 0):=by rw[hw1];exact Qab (Qbc hb)
 have g1:w1.frozen? ⟨c,1,none⟩=false:=by rw[hw1];exact Qay (Qbc hb) 1
 have hs1:w1.heap.size=w.heap.size:=by rw[hw1];simp[World.setCell]
 have hc1:c<w1.heap.size:=by rw[hs1];exact(Array.getElem?_eq_some_iff.1 hb).1
 have Hs1:=hid hs1;clear hw1 hb hs1
 go_enter Tryz.func24,Tryz.ntmps24
 go_wp2;rw[hF.out];clear hF;refine wp_loop_rounds 2 ?_;rw[rounds_succ];go_wp2;iterate 1(rw[rounds_succ];go_wp2)
 go_loopw [8,9] (λn i w9=>∃(j:Nat) (a:Int),1<=j/\j<=2/\i=.int .i64 j/\n=.int .i64 a/\Hid (a=A j)/\w9=w) (λ_ i _=>2-(RowKit.intOf i).toNat)
 case atStart=>exact⟨1,(F:Int)%64,by omega,by omega,by go_num,by go_num,hid H1.out.symm,rfl⟩
 case round=>
  obtain⟨j,a,hj1,hj,rfl,rfl,ha,rfl⟩:=hrel
  by_cases hlt:j<2
  ·have hjs:j<s.size:=by omega
   have hb:=H3.out j hj1 hlt;rw[<-ha.out] at hb;have hstep:=hid (H2.out j hjs hj1 hlt);have hby:=(s[j]'hjs).toNat_lt;go_wp2
   go_roundw
   case rel=>exact⟨j+1,a*256+((s[j]'hjs).toNat:Int),by omega,by omega,by go_num,by go_num,hid (by rw[ha.out];exact hstep.out.symm),by first|rfl|trivial⟩
   case measure=>simp[RowKit.intOf];omega
  ·obtain rfl:j=2:=by omega
   obtain rfl:a=(m:Int):=ha.out.trans hm.out;clear ha
   go_wp2_with fail
   rw[<-Hw1.out,hB.out];refine(refnum m w1 hm2.out).mono ?_;rintro e w2 ⟨rfl,k2⟩;have d2:w2.cell? ⟨c,1,none⟩=some (.int .i64 0):=(k2.cell (p:=⟨c,1,none⟩) hc1 (by show c≠_;omega)).trans d1
   have g2:w2.frozen? ⟨c,1,none⟩=false:=(k2.frozen (p:=⟨c,1,none⟩) hc1 (by show c≠_;omega)).trans g1
   clear d1 g1;rw[Hs1.out,Hw1.out] at k2;have hx9:=hx.out;clear hx
   rcases hx9 with⟨rfl,hne⟩|⟨rfl,hne,hmo⟩|⟨rfl,hne,hmo⟩
   ·go_wp2
    go_ret;exact⟨w2,k2,.inr ⟨by decide,rfl,rfl⟩⟩
   ·go_wp2
    go_ret;exact⟨w2,k2,.inr ⟨by decide,rfl,rfl⟩⟩
   ·go_wp2
    go_ret;exact⟨w2,k2,.inl ⟨rfl,rfl,rfl⟩⟩
theorem Qna (c:Nat)(s:ByteArray)(F:Nat)(most:Int)(w:World)(c0:w.cell? ⟨c,0,none⟩=some (.string s))(c1:w.cell? ⟨c,1,none⟩=some (.int .i64 0))(f1:w.frozen? ⟨c,1,none⟩=false)(_hz:(s.size == 0)=false)(hz2:0<s.size)
  (hF:Hid (wrap64 ((s[0]'hz2).toNat:Int)=(F:Int))) (hlo:128<=F) (hhi:F<192) (hs:s.size<4) :
  Calls Tryz.prog 24 #[.pointer (some ⟨c,0,none⟩),.int .i64 most] w λe w'=>e=.returned (.int .i64 0)/\w.setCell ⟨c,1,none⟩ (.int .i64 2)=w':=by
 go_enter Tryz.func24,Tryz.ntmps24
 go_wp2;rw[hF.out];clear hF;refine wp_loop_rounds 3 ?_;rw[rounds_succ];go_wp2;iterate 2(rw[rounds_succ];go_wp2)
 go_ret;exact⟨rfl,rfl⟩
theorem Qo3 (c:Nat)(s:ByteArray)(F:Nat)(most:Int)(w:World)(hb:w.heap[c]?=some (.cells #[.string s,.int .i64 0] 70 (0,0)))(_hz:(s.size == 0)=false)(hz2:0<s.size)
  (hF:Hid (wrap64 ((s[0]'hz2).toNat:Int)=(F:Int))) (hlo:128<=F) (hhi:F<192) (hs:¬s.size<4) (_hs2:4<=s.size) (A:Nat->Int) (hA:NumAcc s F 4 A) (m:Nat) (hm:Hid (A 4=(m:Int))) (hm2:Hid (m<=4611686018427387903)) (x:Int)
  (B:List UInt8) (hB:Hid (s.extract 0 4=str B)) (hx:Hid ((x=3/\(Wm.enc m == B)=false)\/(x=5/\(Wm.enc m == B)=true/\most<(m:Int))\/(x=0/\(Wm.enc m == B)=true/\(m:Int)<=most))) :
  Calls Tryz.prog 24 #[.pointer (some ⟨c,0,none⟩),.int .i64 most] w λe w'=>NumRd w c s 4 m x e w':=by
 have H1:=hid hA.one;have H2:=hid hA.step;have H3:=hid hA.bound;clear hA;obtain⟨w1,hw1⟩:∃w1,w1=w.setCell ⟨c,0,none⟩ (.string (s.extract 4 s.size)):=⟨_,rfl⟩;have Hw1:=hid hw1;have c0:=Qac hb;have c1:=Qab hb;have f0:=Qay hb 0;have f1:=Qay hb 1;have d1:w1.cell? ⟨c,1,none⟩=some (.int .i64 0):=by rw[hw1];exact Qab (Qbc hb)
 have g1:w1.frozen? ⟨c,1,none⟩=false:=by rw[hw1];exact Qay (Qbc hb) 1
 have hs1:w1.heap.size=w.heap.size:=by rw[hw1];simp[World.setCell]
 have hc1:c<w1.heap.size:=by rw[hs1];exact(Array.getElem?_eq_some_iff.1 hb).1
 have Hs1:=hid hs1;clear hw1 hb hs1
 go_enter Tryz.func24,Tryz.ntmps24
 go_wp2;rw[hF.out];clear hF;refine wp_loop_rounds 3 ?_;rw[rounds_succ];go_wp2;iterate 2(rw[rounds_succ];go_wp2)
 go_loopw [8,9] (λn i w9=>∃(j:Nat) (a:Int),1<=j/\j<=4/\i=.int .i64 j/\n=.int .i64 a/\Hid (a=A j)/\w9=w) (λ_ i _=>4-(RowKit.intOf i).toNat)
 case atStart=>exact⟨1,(F:Int)%64,by omega,by omega,by go_num,by go_num,hid H1.out.symm,rfl⟩
 case round=>
  obtain⟨j,a,hj1,hj,rfl,rfl,ha,rfl⟩:=hrel
  by_cases hlt:j<4
  ·have hjs:j<s.size:=by omega
   have hb:=H3.out j hj1 hlt;rw[<-ha.out] at hb;have hstep:=hid (H2.out j hjs hj1 hlt);have hby:=(s[j]'hjs).toNat_lt;go_wp2
   go_roundw
   case rel=>exact⟨j+1,a*256+((s[j]'hjs).toNat:Int),by omega,by omega,by go_num,by go_num,hid (by rw[ha.out];exact hstep.out.symm),by first|rfl|trivial⟩
   case measure=>simp[RowKit.intOf];omega
  ·obtain rfl:j=4:=by omega
   obtain rfl:a=(m:Int):=ha.out.trans hm.out;clear ha
   go_wp2_with fail
   rw[<-Hw1.out,hB.out];refine(refnum m w1 hm2.out).mono ?_;rintro e w2 ⟨rfl,k2⟩;have d2:w2.cell? ⟨c,1,none⟩=some (.int .i64 0):=(k2.cell (p:=⟨c,1,none⟩) hc1 (by show c≠_;omega)).trans d1
   have g2:w2.frozen? ⟨c,1,none⟩=false:=(k2.frozen (p:=⟨c,1,none⟩) hc1 (by show c≠_;omega)).trans g1
   clear d1 g1;rw[Hs1.out,Hw1.out] at k2;have hx9:=hx.out;clear hx
   rcases hx9 with⟨rfl,hne⟩|⟨rfl,hne,hmo⟩|⟨rfl,hne,hmo⟩
   ·go_wp2
    go_ret;exact⟨w2,k2,.inr ⟨by decide,rfl,rfl⟩⟩
   ·go_wp2
    go_ret;exact⟨w2,k2,.inr ⟨by decide,rfl,rfl⟩⟩
   ·go_wp2
    go_ret;exact⟨w2,k2,.inl ⟨rfl,rfl,rfl⟩⟩
theorem Qm9 (c:Nat)(s:ByteArray)(F:Nat)(most:Int)(w:World)(c0:w.cell? ⟨c,0,none⟩=some (.string s))(c1:w.cell? ⟨c,1,none⟩=some (.int .i64 0))(f1:w.frozen? ⟨c,1,none⟩=false)(_hz:(s.size == 0)=false)(hz2:0<s.size)
  (hF:Hid (wrap64 ((s[0]'hz2).toNat:Int)=(F:Int))) (hlo:192<=F) (hhi:F<256) (hs:s.size<8) :
  Calls Tryz.prog 24 #[.pointer (some ⟨c,0,none⟩),.int .i64 most] w λe w'=>e=.returned (.int .i64 0)/\w.setCell ⟨c,1,none⟩ (.int .i64 2)=w':=by
 go_enter Tryz.func24,Tryz.ntmps24
 go_wp2;rw[hF.out];clear hF;refine wp_loop_rounds 4 ?_;rw[rounds_succ];go_wp2;iterate 3(rw[rounds_succ];go_wp2)
 go_ret;exact⟨rfl,rfl⟩
theorem Qo2 (c:Nat)(s:ByteArray)(F:Nat)(most:Int)(w:World)(hb:w.heap[c]?=some (.cells #[.string s,.int .i64 0] 70 (0,0)))(_hz:(s.size == 0)=false)(hz2:0<s.size)
  (hF:Hid (wrap64 ((s[0]'hz2).toNat:Int)=(F:Int))) (hlo:192<=F) (hhi:F<256) (hs:¬s.size<8) (_hs2:8<=s.size) (A:Nat->Int) (hA:NumAcc s F 8 A) (m:Nat) (hm:Hid (A 8=(m:Int))) (hm2:Hid (m<=4611686018427387903)) (x:Int)
  (B:List UInt8) (hB:Hid (s.extract 0 8=str B)) (hx:Hid ((x=3/\(Wm.enc m == B)=false)\/(x=5/\(Wm.enc m == B)=true/\most<(m:Int))\/(x=0/\(Wm.enc m == B)=true/\(m:Int)<=most))) :
  Calls Tryz.prog 24 #[.pointer (some ⟨c,0,none⟩),.int .i64 most] w λe w'=>NumRd w c s 8 m x e w':=by
 have H1:=hid hA.one;have H2:=hid hA.step;have H3:=hid hA.bound;clear hA;obtain⟨w1,hw1⟩:∃w1,w1=w.setCell ⟨c,0,none⟩ (.string (s.extract 8 s.size)):=⟨_,rfl⟩;have Hw1:=hid hw1;have c0:=Qac hb;have c1:=Qab hb;have f0:=Qay hb 0;have f1:=Qay hb 1;have d1:w1.cell? ⟨c,1,none⟩=some (.int .i64 0):=by rw[hw1];exact Qab (Qbc hb)
 have g1:w1.frozen? ⟨c,1,none⟩=false:=by rw[hw1];exact Qay (Qbc hb) 1
 have hs1:w1.heap.size=w.heap.size:=by rw[hw1];simp[World.setCell]
 have hc1:c<w1.heap.size:=by rw[hs1];exact(Array.getElem?_eq_some_iff.1 hb).1
 have Hs1:=hid hs1;clear hw1 hb hs1
 go_enter Tryz.func24,Tryz.ntmps24
 go_wp2;rw[hF.out];clear hF;refine wp_loop_rounds 4 ?_;rw[rounds_succ];go_wp2;iterate 3(rw[rounds_succ];go_wp2)
 go_loopw [8,9] (λn i w9=>∃(j:Nat) (a:Int),1<=j/\j<=8/\i=.int .i64 j/\n=.int .i64 a/\Hid (a=A j)/\w9=w) (λ_ i _=>8-(RowKit.intOf i).toNat)
 case atStart=>exact⟨1,(F:Int)%64,by omega,by omega,by go_num,by go_num,hid H1.out.symm,rfl⟩
 case round=>
  obtain⟨j,a,hj1,hj,rfl,rfl,ha,rfl⟩:=hrel
  by_cases hlt:j<8
  ·have hjs:j<s.size:=by omega
   have hb:=H3.out j hj1 hlt;rw[<-ha.out] at hb;have hstep:=hid (H2.out j hjs hj1 hlt);have hby:=(s[j]'hjs).toNat_lt;go_wp2
   go_roundw
   case rel=>exact⟨j+1,a*256+((s[j]'hjs).toNat:Int),by omega,by omega,by go_num,by go_num,hid (by rw[ha.out];exact hstep.out.symm),by first|rfl|trivial⟩
   case measure=>simp[RowKit.intOf];omega
  ·obtain rfl:j=8:=by omega
   obtain rfl:a=(m:Int):=ha.out.trans hm.out;clear ha
   go_wp2_with fail
   rw[<-Hw1.out,hB.out];refine(refnum m w1 hm2.out).mono ?_;rintro e w2 ⟨rfl,k2⟩;have d2:w2.cell? ⟨c,1,none⟩=some (.int .i64 0):=(k2.cell (p:=⟨c,1,none⟩) hc1 (by show c≠_;omega)).trans d1
   have g2:w2.frozen? ⟨c,1,none⟩=false:=(k2.frozen (p:=⟨c,1,none⟩) hc1 (by show c≠_;omega)).trans g1
   clear d1 g1;rw[Hs1.out,Hw1.out] at k2;have hx9:=hx.out;clear hx
   rcases hx9 with⟨rfl,hne⟩|⟨rfl,hne,hmo⟩|⟨rfl,hne,hmo⟩
   ·go_wp2
    go_ret;exact⟨w2,k2,.inr ⟨by decide,rfl,rfl⟩⟩
   ·go_wp2
    go_ret;exact⟨w2,k2,.inr ⟨by decide,rfl,rfl⟩⟩
   ·go_wp2
    go_ret;exact⟨w2,k2,.inl ⟨rfl,rfl,rfl⟩⟩
theorem numAcc (f:UInt8)(t:List UInt8)(hl:Wm.more f<=t.length):NumAcc (str (f::t)) f.toNat (Wm.more f+1) (λj=>((Wm.valOf (f.toNat%64) (t.take (j-1)):Nat):Int)):=by
 have hm:=Wm.more_cases f;refine⟨by show((Wm.valOf (f.toNat%64) []:Nat):Int)=_;simp[Wm.valOf],λj h h1 hj=>?_,λj h1 hj=>?_⟩
 ·obtain⟨i,rfl⟩:∃i,j=i+1:=⟨j-1,by omega⟩
  have hi:i<t.length:=by omega
  show((Wm.valOf (f.toNat%64) (t.take (i+1)):Nat):Int)=((Wm.valOf (f.toNat%64) (t.take i):Nat):Int)*256+_;rw[List.take_succ_eq_append_getElem hi,Wm.valOf_snoc,Qqj _ _ h (by rw[List.length_cons];omega),List.getElem_cons_succ]
  omega
 ·obtain⟨i,rfl⟩:∃i,j=i+1:=⟨j-1,by omega⟩
  refine⟨Int.natCast_nonneg _,?_⟩;show((Wm.valOf (f.toNat%64) (t.take i):Nat):Int)<_;have h6:i<=6:=by omega
  have hlen:(t.take i).length=i:=by rw[List.length_take];omega
  have h2:=Wm.valOf_lt (t.take i);rw[Wm.valOf_eq];rw[hlen] at h2 |-;have h3:f.toNat%64<64:=Nat.mod_lt _ (by decide)
  have h4:256 ^ i<=256 ^ 6:=Nat.pow_le_pow_right (by decide) h6
  have h5:(f.toNat%64+1)*256 ^ i<=64*256 ^ 6:=Nat.mul_le_mul (by omega) h4
  have h7:f.toNat%64*256 ^ i+Wm.valOf 0 (t.take i)<64*256 ^ 6:=by
   rw[Nat.add_mul] at h5
   omega
  have h8:(64*256 ^ 6:Nat)=18014398509481984:=by decide
  rw[h8] at h7;exact Int.ofNat_lt.2 h7
theorem Qg8 (c:Nat)(f:UInt8)(t:List UInt8)(most:Int)(w:World)(hb:w.heap[c]?=some (.cells #[.string (str (f::t)),.int .i64 0] 70 (0,0)))(hl:Wm.more f<=t.length)(x:Int)
  (hx:Hid ((x=3/\(Wm.enc (Wm.nval f t) == f::t.take (Wm.more f))=false)\/(x=5/\(Wm.enc (Wm.nval f t) == f::t.take (Wm.more f))=true/\most<(Wm.nval f t:Int))\/(x=0/\(Wm.enc (Wm.nval f t) == f::t.take (Wm.more f))=true/\(Wm.nval f t:Int)<=most))) :
  Calls Tryz.prog 24 #[.pointer (some ⟨c,0,none⟩),.int .i64 most] w λe w'=>NumRd w c (str (f::t)) (Wm.more f+1) (Wm.nval f t) x e w':=by
 have hA:=numAcc f t hl;have hsz:(str (f::t)).size=t.length+1:=by rw[Qai,List.length_cons]
 have hz:((str (f::t)).size == 0)=false:=by rw[hsz];simp
 have hz2:0<(str (f::t)).size:=by omega
 have h256:=f.toNat_lt
 have hF:Hid (wrap64 (((str (f::t))[0]'hz2).toNat:Int)=(f.toNat:Int)):=hid (by
  rw[Qqj _ _ hz2 (by simp)]
  exact IntWalk.wrap64_in (f.toNat:Int) ⟨by omega,by omega⟩)
 have hB:Hid ((str (f::t)).extract 0 (Wm.more f+1)=str (f::t.take (Wm.more f))):=hid (by rw[Qlk,List.take_succ_cons])
 have hm:Hid (((Wm.valOf (f.toNat%64) (t.take (Wm.more f+1-1)):Nat):Int)=(Wm.nval f t:Int)):=hid rfl;have hm2:Hid (Wm.nval f t<=4611686018427387903):=hid (Wm.nval_max f t hl)
 rcases Wm.more_cases f with⟨hq,hk⟩|⟨hq,hk⟩|⟨hq,hk⟩|⟨hq,hk⟩
 ·rw[hk] at hA hB hm hx hl |-
  exact Qo5 c _ f.toNat most w hb hz hz2 hF (by omega) (by omega) (by omega) (by omega) _ hA _ hm hm2 x _ hB hx
 ·rw[hk] at hA hB hm hx hl |-
  exact Qo4 c _ f.toNat most w hb hz hz2 hF (by omega) (by omega) (by omega) (by omega) _ hA _ hm hm2 x _ hB hx
 ·rw[hk] at hA hB hm hx hl |-
  exact Qo3 c _ f.toNat most w hb hz hz2 hF (by omega) (by omega) (by omega) (by omega) _ hA _ hm hm2 x _ hB hx
 ·rw[hk] at hA hB hm hx hl |-
  exact Qo2 c _ f.toNat most w hb hz hz2 hF (by omega) (by omega) (by omega) (by omega) _ hA _ hm hm2 x _ hB hx
theorem Qo1 (c:Nat)(f:UInt8)(t:List UInt8)(most:Int)(w:World)(hb:w.heap[c]?=some (.cells #[.string (str (f::t)),.int .i64 0] 70 (0,0)))(hl:t.length<Wm.more f):
  Calls Tryz.prog 24 #[.pointer (some ⟨c,0,none⟩),.int .i64 most] w λe w'=>e=.returned (.int .i64 0)/\w.setCell ⟨c,1,none⟩ (.int .i64 2)=w':=by
 have hsz:(str (f::t)).size=t.length+1:=by rw[Qai,List.length_cons]
 have hz:((str (f::t)).size == 0)=false:=by rw[hsz];simp
 have hz2:0<(str (f::t)).size:=by omega
 have h256:=f.toNat_lt
 have hF:Hid (wrap64 (((str (f::t))[0]'hz2).toNat:Int)=(f.toNat:Int)):=hid (by
  rw[Qqj _ _ hz2 (by simp)]
  exact IntWalk.wrap64_in (f.toNat:Int) ⟨by omega,by omega⟩)
 rcases Wm.more_cases f with⟨hq,hk⟩|⟨hq,hk⟩|⟨hq,hk⟩|⟨hq,hk⟩
 ·omega
 ·exact Qnb c _ f.toNat most w (Qac hb) (Qab hb) (Qay hb 1) hz hz2 hF (by omega) (by omega) (by omega)
 ·exact Qna c _ f.toNat most w (Qac hb) (Qab hb) (Qay hb 1) hz hz2 hF (by omega) (by omega) (by omega)
 ·exact Qm9 c _ f.toNat most w (Qac hb) (Qab hb) (Qay hb 1) hz hz2 hF (by omega) (by omega) (by omega)
def NumFin (w:World)(c:Nat)(r:Wm.Got Int)(e:Ending)(w':World):Prop:=e=.returned (.int .i64 r.val)/\Rf w' c r.left r.err/\Kept w.heap.size c w w'
theorem Qi8 (c:Nat)(f:UInt8)(t:List UInt8)(w:World)(hb:w.heap[c]?=some (.cells #[.string (str (f::t)),.int .i64 0] 70 (0,0)))(x:Int)(e:Ending)(w':World)
  (h:NumRd w c (str (f::t)) (Wm.more f+1) (Wm.nval f t) x e w'):NumFin w c (if x=0 then⟨Wm.nval f t,t.drop (Wm.more f),0⟩ else⟨0,[],x⟩) e w':=by
 obtain⟨w2,k2,h⟩:=h;have hc:=(Array.getElem?_eq_some_iff.1 hb).1;have hb2:w2.heap[c]?=some (.cells #[.string ((str (f::t)).extract (Wm.more f+1) (str (f::t)).size),.int .i64 0] 70 (0,0)):=(k2.block c hc (by omega)).trans (Qbc hb)
 have kk:Kept w.heap.size c w w2:=(zI.set (.inl rfl) 0 _).trans (k2.mono (zB _) (λk hk _=>by omega))
 rcases h with⟨rfl,rfl,rfl⟩|⟨hx,rfl,rfl⟩
 ·rw[zG rfl]
  exact⟨rfl,⟨⟨_,hb2,λ_=>by rw[Qll,List.drop_succ_cons]⟩,λh=>absurd rfl h⟩,kk⟩
 ·rw[if_neg hx]
  exact⟨rfl,Rf.setErr x hx hb2,kk.set (.inl rfl) 1 _⟩
theorem Qgj (c:Nat)(l:List UInt8)(e0 most:Int)(w:World)(h:Rf w c l e0):
  Calls Tryz.prog 24 #[.pointer (some ⟨c,0,none⟩),.int .i64 most] w λe w'=>NumFin w c (gNum l e0 most) e w':=by
 unfold gNum
 split
 ·rename_i he
  subst he;obtain⟨s,hb,hs⟩:=h.ex;obtain rfl:=hs rfl
  cases l with
  | nil=>
   refine(Qo6 c most w (Qac hb) (Qab hb) (Qay hb 1)).mono ?_;rintro e w' ⟨rfl,rfl⟩;exact⟨rfl,Rf.setErr 2 (by decide) hb,zI.set (.inl rfl) 1 _⟩
  | cons f t=>
   rw[Wm.rNum]
   split
   ·rename_i hl
    refine(Qo1 c f t most w hb hl).mono ?_;rintro e w' ⟨rfl,rfl⟩;exact⟨rfl,Rf.setErr 2 (by decide) hb,zI.set (.inl rfl) 1 _⟩
   ·rename_i hl
    have hl2:Wm.more f<=t.length:=by omega
    split
    ·rename_i hls
     have hne:=Wm.enc_nval_ne f t hl2 hls;refine(Qg8 c f t most w hb hl2 3 (hid (.inl ⟨rfl,by simpa using hne⟩))).mono ?_
     rintro e w' h9;exact Qi8 c f t w hb 3 e w' h9
    ·rename_i hls
     have heq:=Wm.enc_nval f t hl2 (by simpa using hls)
     split
     ·rename_i hmost
      refine(Qg8 c f t most w hb hl2 5 (hid (.inr (.inl ⟨rfl,by simpa using heq,hmost⟩)))).mono ?_
      rintro e w' h9;exact Qi8 c f t w hb 5 e w' h9
     ·rename_i hmost
      refine(Qg8 c f t most w hb hl2 0 (hid (.inr (.inr ⟨rfl,by simpa using heq,by omega⟩)))).mono ?_
      rintro e w' h9;exact Qi8 c f t w hb 0 e w' h9
 ·rename_i he
  obtain rfl:=h.fail he;refine(Qnc c e0 most w h.err (by simpa using he)).mono ?_
  rintro e w' ⟨rfl,rfl⟩;exact⟨rfl,h,Kept.refl _ _ _⟩
theorem Qmp (c:Nat)(l:List UInt8)(e0 most m:Int)(hm:(65536<most/\m=65536)\/(¬65536<most/\m=most))(r:Wm.Got Int)(hr:gNum l e0 m=r)(hv:0<=r.val)(w:World)(h:Rf w c l e0):
  Calls Tryz.prog 25 #[.pointer (some ⟨c,0,none⟩),.int .i64 most] w λe w'=>StrPost w c (if r.err=0 then Wm.rRaw r.left r.val.toNat else⟨[],[],r.err⟩) e w':=by
 have hcall:=Qgj c l e0 m w h;rw[hr] at hcall;have Hcall:=hid hcall;clear hcall hr h
 have hE:Calls Tryz.prog 25 #[.pointer (some ⟨c,0,none⟩),.int .i64 most] w λe w'=>(r.err=0->∃w1,Rf w1 c r.left r.err/\Kept w.heap.size c w w1/\StrPost w1 c (gRaw r.left 0 r.val.toNat) e w')/\(r.err≠0->e=.returned (.string (str []))/\Rf w' c r.left r.err/\Kept w.heap.size c w w'):=by
  obtain⟨n,hn⟩:=Int.eq_ofNat_of_zero_le hv;have Hn:=hid hn;clear hn hv
  rcases hm with⟨h1,rfl⟩|⟨h1,rfl⟩
  all_goals
   go_enter Tryz.func25,Tryz.ntmps25
   go_wp2_with fail
   refine Hcall.out.mono ?_;rintro e w1 ⟨rfl,h1,k1⟩;have c1:=h1.err;rw[Hn.out]
   by_cases he:r.err=0
   ·have hcall2:=Qkt c r.left 0 n w1 (by rw[he] at h1;exact h1)
    have Hcall2:=hid hcall2;clear hcall2;have he2:(r.err != 0)=false:=by simpa using he
    go_wp2_with fail
    refine Hcall2.out.mono ?_;rintro e w2 ⟨rfl,h2,k2⟩;go_wp2;go_ret;exact⟨λ_=>⟨w1,h1,k1,by rw[Hn.out];exact⟨rfl,h2,k2⟩⟩,λh=>absurd he h⟩
   ·have he2:(r.err != 0)=true:=by simpa using he
    go_wp2;go_ret;exact⟨λh=>absurd h he,λ_=>⟨rfl,h1,k1⟩⟩
 refine hE.mono ?_;rintro e w' ⟨ha,hb⟩
 by_cases he:r.err=0
 ·rw[zG he]
  obtain⟨w1,h1,k1,h2,h3,h4⟩:=ha he;exact⟨h2,h3,k1.trans (Qyb k1 h4)⟩
 ·rw[if_neg he]
  obtain⟨h1,h2,h3⟩:=hb he;have:=h2.fail he;rw[this] at h2;exact⟨h1,h2,h3⟩
theorem Qqy (l:List UInt8)(e most:Int):0<=(gNum l e most).val:=by
 unfold gNum
 split
 ·exact(Wm.rNum_val l most).1
 ·exact Int.le_refl 0
theorem Qrc (c:Nat)(l:List UInt8)(e0 most:Int)(w:World)(h:Rf w c l e0):
  Calls Tryz.prog 25 #[.pointer (some ⟨c,0,none⟩),.int .i64 most] w λe w'=>StrPost w c (gText l e0 most) e w':=by
 have key:∀m,m=min most 65536->gText l e0 most=if(gNum l e0 m).err=0 then Wm.rRaw (gNum l e0 m).left (gNum l e0 m).val.toNat else⟨[],[],(gNum l e0 m).err⟩:=by
  rintro m rfl;unfold gText gNum
  by_cases he:e0=0
  ·rw[zG he,zG he]
   rfl
  ·rw[if_neg he,if_neg he]
   show _=if e0=0 then _ else _
   rw[if_neg he]
 by_cases hm:65536<most
 ·rw[key 65536 (by omega)]
  exact Qmp c l e0 most 65536 (.inl ⟨hm,rfl⟩) _ rfl (Qqy l e0 _) w h
 ·rw[key most (by omega)]
  exact Qmp c l e0 most most (.inr ⟨hm,rfl⟩) _ rfl (Qqy l e0 _) w h
theorem Qu5 (c:Nat)(l:List UInt8)(e0:Int)(w:World)(h:Rf w c l e0):
  Calls Tryz.prog 26 #[.pointer (some ⟨c,0,none⟩)] w λe w'=>e=.returned (.int .i64 (gEnd l e0))/\w'=w:=by
 obtain⟨s,hb,hs⟩:=h.ex;have c0:=Qac hb;have c1:=Qab hb;unfold gEnd
 by_cases h0:e0=0
 ·subst h0
  obtain rfl:=hs rfl;rw[zG rfl];have hsz:=Qai l
  by_cases hl:l=[]
  ·subst hl
   rw[zG rfl];clear hb hs h
   go_enter Tryz.func26,Tryz.ntmps26
   go_wp2;go_ret;exact⟨rfl,rfl⟩
  ·rw[if_neg hl]
   have hpos:0<(str l).size:=by rw[hsz];exact List.length_pos_iff.2 hl
   clear hb hs h hsz
   go_enter Tryz.func26,Tryz.ntmps26
   go_wp2;go_ret;exact⟨rfl,rfl⟩
 ·rw[if_neg h0]
  have hx:(e0 != 0)=true:=by simpa using h0
  clear hb hs h
  go_enter Tryz.func26,Tryz.ntmps26
  go_wp2;go_ret;exact⟨rfl,rfl⟩
def FlagFin (w:World)(c:Nat)(r:Wm.Got Bool)(e:Ending)(w':World):Prop:=e=.returned (.bool r.val)/\Rf w' c r.left r.err/\Kept w.heap.size c w w'
theorem Qg1:(Tryz.prog.info? 22).map (·.size)=some 32:=by kernel_rfl
def Qc3 (v:List UInt8)(j:Nat):List UInt8:=v.take j++(List.replicate 32 (0:UInt8)).drop j
theorem Qpf (v:List UInt8):Qc3 v 0=List.replicate 32 0:=by simp[Qc3]
theorem Qgn (v:List UInt8)(j:Nat)(hj:j<=v.length)(h32:j<=32):(Qc3 v j).length=32:=by
 simp[Qc3];omega
theorem Qsm (v:List UInt8)(h:v.length=32):Qc3 v 32=v:=by
 rw[Qc3,List.take_of_length_le (by omega),List.drop_eq_nil_of_le (by simp),List.append_nil]
theorem Qsl (v:List UInt8)(j:Nat)(hj:j<v.length)(h32:j<32):(Qc3 v j).set j v[j]=Qc3 v (j+1):=by
 unfold Qc3;have h1:(v.take j).length=j:=by rw[List.length_take];omega
 rw[List.set_append_right _ _ (by omega),h1,Nat.sub_self,List.drop_eq_getElem_cons (by simpa using h32),List.set_cons_zero,List.take_succ_eq_append_getElem hj,List.append_assoc]
 rfl
theorem Qte (l:List UInt8)(j:Nat)(b:UInt8):(bY l).set j (.int .u8 b.toNat)=bY (l.set j b):=by
 simp[bY,List.map_set]
def HashFin (w:World)(c:Nat)(r:Wm.Got (List UInt8))(e:Ending)(w':World):Prop:=e=.returned (.agg (bY r.val).toArray)/\Rf w' c r.left r.err/\Kept w.heap.size c w w'
theorem Qwm (l:List UInt8)(e:Int):gHash l e=⟨Qc3 (gRaw l e 32).val (gRaw l e 32).val.length,(gRaw l e 32).left,(gRaw l e 32).err⟩/\((gRaw l e 32).val.length<=32):=by
 unfold gHash gRaw
 by_cases he:e=0
 ·rw[zG he,zG he]
  unfold Wm.rRaw
  by_cases hl:l.length<32
  ·rw[zG hl,zG hl]
   exact⟨rfl,by decide⟩
  ·rw[if_neg hl,if_neg hl]
   have h1:(l.take 32).length=32:=by rw[List.length_take];omega
   refine⟨?_,by show(l.take 32).length<=32;omega⟩
   show _=(⟨Qc3 (l.take 32) (l.take 32).length,l.drop 32,0⟩:Wm.Got _);rw[h1,Qsm _ h1]
 ·rw[if_neg he,if_neg he]
  exact⟨rfl,Nat.zero_le _⟩
theorem Qsq (c:Nat)(l:List UInt8)(e0:Int)(w:World)(h:Rf w c l e0):
  Calls Tryz.prog 23 #[.pointer (some ⟨c,0,none⟩)] w λe w'=>HashFin w c (gHash l e0) e w':=by
 obtain⟨hraw,hlen⟩:=Qwm l e0;rw[hraw];have hcall:=λ(w':World) (h':Rf w' c l e0)=>Qkt c l e0 32 w' h'
 generalize gRaw l e0 32=r at *;have Hcall:=hid hcall;clear hraw hcall;obtain⟨v,hv⟩:∃v,v=r.val:=⟨_,rfl⟩;have hcw:=h.lt
 go_enter Tryz.func23,Tryz.ntmps23
 go_wp2_with fail
 rw[Qao];have hA:((w.alloc (.cells zY 22)).alloc (.cells zY 22)).heap[w.heap.size]?=some (.cells zY 22 (0,0)):=heap_alloc2_old w _ _
 have hB:((w.alloc (.cells zY 22)).alloc (.cells zY 22)).heap[w.heap.size+1]?=some (.cells zY 22 (0,0)):=heap_alloc2_new w _ _
 have hK:Kept w.heap.size w.heap.size w ((w.alloc (.cells zY 22)).alloc (.cells zY 22)):=(zI.alloc (zB _) _).alloc (by simp) _
 have hR:=h.kept hK hcw (by omega)
 generalize (w.alloc (.cells zY 22)).alloc (.cells zY 22)=w2 at hA hB hK hR |-
 have hsz:=zF hB;refine(Hcall.out _ hR).mono ?_;rintro e w3 ⟨rfl,h3,k3⟩;rw[<-hv];rw[<-hv] at hlen;have hA:=(k3.block w.heap.size (by omega) (by omega)).trans hA
 have hB:=(k3.block (w.heap.size+1) (by omega) (by omega)).trans hB
 have hK:=(hK.mono (base':=w.heap.size) (b':=c) (zB _) (λk hk _=>by omega)).trans (k3.mono (by omega) (λ_ _ h=>h))
 have hsv:=Qai v;have Hv:=hid hv;clear hv hR h;have HA:=hid hA;have HB:=hid hB;clear hA hB;have hz3:w.heap.size+1<w3.heap.size:=zF HB.out;clear k3
 go_wp2_with fail
 go_loopw [5] (λi w9=>∃j:Nat,j<=v.length/\i=.int .i64 j/\Hid (w9.heap[w.heap.size+1]?=some (.cells (bY (Qc3 v j)).toArray 22 (0,0)))/\Hid (w9.heap[w.heap.size]?=some (.cells zY 22 (0,0)))/\Rf w9 c r.left r.err/\Kept w.heap.size c w w9) (λi _=>v.length-(RowKit.intOf i).toNat)
 case atStart=>exact⟨0,by omega,rfl,hid (by rw[Qpf];exact HB.out),HA,h3,hK⟩
 case round=>
  obtain⟨j,hj,rfl,hB9,hA9,h9,k9⟩:=hrel
  by_cases hlt:j<v.length
  ·have hjs:j<(str v).size:=by omega
   have hll:(bY (Qc3 v j)).length=32:=by rw[bZ,Qgn v j hj (by omega)]
   have cj:=Qby hB9.out j (by omega)
   have fj:=Qa0 hB9.out j;have hset:=hid (Qaj hB9.out j (.int .u8 (v[j]).toNat));have hat:=Qqj v j hjs hlt;have k10:=k9.set (b':=w.heap.size+1) (.inr (by omega)) j (.int .u8 (v[j]).toNat)
   have h10:=h9.same (w':=wr.setCell ⟨w.heap.size+1,j,none⟩ (.int .u8 (v[j]).toNat)) (Qc4 _ _ _ _ _ (by omega))
   have hA10:=hid ((Qc4 wr (w.heap.size+1) j (.int .u8 (v[j]).toNat) w.heap.size (by omega)).trans hA9.out)
   rw[Qte,Qsl v j hlt (by omega)] at hset
   go_wp2
   go_roundw
   case rel=>exact⟨j+1,by omega,by go_num,hset,hA10,h10,k10⟩
   case measure=>simp[RowKit.intOf];omega
  ·obtain rfl:j=v.length:=by omega
   have hone:=Qae (Qc3 v v.length)
   have hsz2:(bY (Qc3 v v.length)).toArray.size=32:=by
    simp only[List.size_toArray,bZ];exact Qgn v v.length (zB _) hlen
   have hzs:=Qah;generalize hq:(bY (Qc3 v v.length)).toArray=q at *
   go_wp2_with (first|(with_reducible refine wpList_load_row rfl 22 _ rfl (w.heap.size+1) rfl 22 q (0,0) _ hB9.out Tryz.underlying22 rfl (by rw[Qg1,hsz2]) ?_)|(with_reducible refine wpList_store_row rfl 22 _ _ rfl w.heap.size q rfl rfl 22 _ hA9.out (by rw[Qg1,hsz2]) (by rw[hsz2,hzs]) hone ?_))
   have t2:(wr.setRow w.heap.size q).heap[w.heap.size]?=some (.cells q 22 (0,0)):=setRow_heap wr w.heap.size zY q _ _ hA9.out
   have t1:Kept w.heap.size c w (wr.setRow w.heap.size q):=k9.trans ⟨rfl,rfl,rfl,by simp[World.setRow],λk hk _=>setRow_other wr w.heap.size k q (by omega)⟩
   have t3:Rf (wr.setRow w.heap.size q) c r.left r.err:=h9.same (setRow_other wr w.heap.size c q (by omega))
   refine bodyPost_ret (results_cell_row rfl _ _ w.heap.size 22 q (0,0) _ rfl t2 Tryz.underlying22 rfl (by rw[Qg1,hsz2])) rfl ?_
   refine⟨?_,t3,t1⟩;rw[<-hq,Hv.out]
end Go.Proofs.YtnlbgggnpoeleaaGreatDoor
