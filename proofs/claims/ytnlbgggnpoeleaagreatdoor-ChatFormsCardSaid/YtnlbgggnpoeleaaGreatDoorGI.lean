/-
 MacMath; MacFour; MacPad; MacUnder; MacCode; MacDerive; MacStream: several texts in one.
-/
import Derived.Test.YtnlbgggnpoeleaaGreatDoorGC
import Derived.Deep.DeepCutAuto
import Derived.Laws.OwnMore
set_option maxRecDepth 100000
set_option maxHeartbeats 1600000
namespace Go.Proofs.YtnlbgggnpoeleaaGreatDoor
namespace Mc
def short (key:List UInt8):List UInt8:=if 64<key.length then Sm.sum key else key
def filled (key:List UInt8):List UInt8:=short key++List.replicate (64-(short key).length) 0
def put (x:UInt8)(l:List UInt8):List UInt8:=l.map λb=>b ^^^ x
def under (f text:List UInt8):List UInt8:=Sm.sum (put 92 f++Sm.sum (put 54 f++text))
def code (key text:List UInt8):List UInt8:=under (filled key) text
def four (n:Nat):List UInt8:=[UInt8.ofNat (n/16777216),UInt8.ofNat (n/65536),UInt8.ofNat (n/256),UInt8.ofNat n]
def derive (key label context:List UInt8):List UInt8:=code key (four label.length++label++context)
def row (key:List UInt8):Nat->List UInt8
 | 0=>[]
 | k+1=>row key k++code key (four k)
def stream (key:List UInt8)(n:Nat):List UInt8:=(row key ((n+31)/32)).take n
theorem short_length (key:List UInt8):(short key).length<=64:=by
 unfold short
 split
 ·rw[Qaw];decide
 ·omega
theorem filled_length (key:List UInt8):(filled key).length=64:=by
 have:=short_length key;rw[filled,zE,List.length_replicate]
 omega
theorem put_length (x:UInt8)(l:List UInt8):(put x l).length=l.length:=by simp[put]
theorem under_length (f t:List UInt8):(under f t).length=32:=Qaw _
theorem code_length (k t:List UInt8):(code k t).length=32:=Qaw _
theorem four_length (n:Nat):(four n).length=4:=rfl
theorem derive_length (k l c:List UInt8):(derive k l c).length=32:=Qaw _
theorem row_length (key:List UInt8):∀k,(row key k).length=32*k
 | 0=>rfl
 | k+1=>by rw[row,zE,row_length key k,code_length];omega
theorem Qkr (key:List UInt8)(k:Nat):∀d,∃r,row key (k+d)=row key k++r
 | 0=>⟨[],by simp⟩
 | d+1=>by
  obtain⟨r,h⟩:=Qkr key k d;exact⟨r++code key (four (k+d)),by rw[<-Nat.add_assoc,row,h,List.append_assoc]⟩
theorem row_take (key:List UInt8)(n k:Nat)(h:n<=32*k):(row key k).take n=stream key n:=by
 have hk:(n+31)/32<=k:=by omega
 obtain⟨r,hr⟩:=Qkr key ((n+31)/32) (k-(n+31)/32);rw[show(n+31)/32+(k-(n+31)/32)=k by omega] at hr
 rw[hr,List.take_append_of_le_length (by rw[row_length];omega),stream]
theorem stream_length (key:List UInt8)(n:Nat):(stream key n).length=n:=by
 rw[stream,List.length_take,row_length]
 omega
theorem stream_zero (key:List UInt8):stream key 0=[]:=by simp[stream]
def jefe:List UInt8:=[74,101,102,101]
def nothing:List UInt8:=[119,104,97,116,32,100,111,32,121,97,32,119,97,110,116,32]++[102,111,114,32,110,111,116,104,105,110,103,63]
def said:List UInt8:=[53,98,100,99,99,49,52,54,98,102,54,48,55,53,52,101,54,97,48,52,50,52,50,54,48,56,57,53,55,53,99,55,53,97,48,48,51,102,48,56,57,100,50,55,51,57,56,51,57,100,101,99,53,56,98,57,54,52,101,99,51,56,52,51]
theorem awake:Sm.hex (code jefe nothing)=said:=by decide +kernel
end Mc
open Go.RowKit
open Go.Lib (hid)
theorem Qpx (w:World)(b o cap:Nat)(l:List UInt8)(h:∀j (hj:j<l.length),w.cell? ⟨b,o+j,none⟩=some (.int .u8 ((l[j]).toNat:Int))):
  (convert 106 9 (.slice (some ⟨b,o,none⟩) l.length cap)).run Tryz.prog w=.ok (.string (str l)) w:=
 run_convert_bytes_back (P:=Tryz.prog) w 106 9 5 ⟨b,o,none⟩ cap l Tryz.underlying106 Tryz.underlying5 Tryz.underlying9 (λj hj=>by rw[Addr.add_lit];exact h j hj)
theorem Qdx (w:World)(b:Nat)(m:List UInt8)(t:TypeId)(fr:Nat × Nat)(hb:w.heap[b]?=some (.cells (bY m).toArray t fr))(o cap:Nat)(l:List UInt8)(h:l=(m.drop o).take l.length):
  (convert 106 9 (.slice (some ⟨b,o,none⟩) l.length cap)).run Tryz.prog w=.ok (.string (str l)) w:=by
 refine Qpx w b o cap l λj hj=>?_
 have hm:m[o+j]?=some l[j]:=by
  have h1:l[j]?=some l[j]:=List.getElem?_eq_getElem hj;have h2:l[j]?=((m.drop o).take l.length)[j]?:=congrArg (λx:List UInt8=>x[j]?) h
  rw[List.getElem?_take,zG hj,List.getElem?_drop] at h2;rw[<-h2,h1]
 have hlt:o+j<m.length:=by
  rcases Nat.lt_or_ge (o+j) m.length with h1|h1
  ·exact h1
  ·rw[List.getElem?_eq_none h1] at hm;cases hm
 have hv:m[o+j]=l[j]:=by
  rw[List.getElem?_eq_getElem hlt] at hm;exact Option.some.inj hm
 simp[World.cell?,hb,bY,hlt,hv]
theorem Qn1 (w:World)(a b c d:UInt8):(convert 106 9 (.slice (some ⟨w.heap.size,0,none⟩) 4 4)).run Tryz.prog (w.alloc (.cells #[.int .u8 (a.toNat:Int),.int .u8 (b.toNat:Int),.int .u8 (c.toNat:Int),.int .u8 (d.toNat:Int)] 5))=.ok (.string (str [a,b,c,d])) (w.alloc (.cells #[.int .u8 (a.toNat:Int),.int .u8 (b.toNat:Int),.int .u8 (c.toNat:Int),.int .u8 (d.toNat:Int)] 5)):=
 Qdx _ w.heap.size [a,b,c,d] _ (0,0) (Qaa _ _) 0 4 [a,b,c,d] rfl
theorem Qfe (x:Nat):((x:Int)%256)=(((UInt8.ofNat x).toNat:Nat):Int):=by rw[UInt8.toNat_ofNat'];rfl
theorem Qk5 (n:Nat)(w:World):Calls Tryz.prog 130 #[.int .i64 (n:Int)] w λe w'=>e=.returned (.string (str (Mc.four n)))/\Kept w.heap.size w.heap.size w w':=by
 have h:=Qn1 w (UInt8.ofNat (n/16777216)) (UInt8.ofNat (n/65536)) (UInt8.ofNat (n/256)) (UInt8.ofNat n);rw[<-Qfe,<-Qfe,<-Qfe,<-Qfe] at h
 have H:=hid h;clear h
 go_enter Tryz.func130,Tryz.ntmps130
 go_wp2_with fail
 rw[show((n:Int)/16777216)=((n/16777216:Nat):Int) from rfl,show((n:Int)/65536)=((n/65536:Nat):Int) from rfl,show((n:Int)/256)=((n/256:Nat):Int) from rfl,H.out];go_wp2;go_ret;exact⟨rfl,zI.alloc (zB _) _⟩
theorem Qlt (n:Nat)(hn:Hid (n<4294967296))(w:World):Calls Tryz.prog 104 #[.int .i64 (n:Int)] w λe w'=>e=.returned (.string (str (Mc.four n)))/\Kept w.heap.size w.heap.size w w':=by
 have h:=Qn1 w (UInt8.ofNat (n/16777216)) (UInt8.ofNat (n/65536)) (UInt8.ofNat (n/256)) (UInt8.ofNat n)
 have e1:wrap64 ((n:Int)/16777216)%256=(((UInt8.ofNat (n/16777216)).toNat:Nat):Int):=by
  rw[<-Qfe,show wrap64 ((n:Int)/16777216)=((n/16777216:Nat):Int) by have:=hn.out;unfold wrap64;omega]
 have e2:(wrap64 ((n:Int)/65536)).tmod 256%256=(((UInt8.ofNat (n/65536)).toNat:Nat):Int):=by
  rw[<-Qfe,show wrap64 ((n:Int)/65536)=((n/65536:Nat):Int) by have:=hn.out;unfold wrap64;omega,Int.tmod_eq_emod_of_nonneg (by omega)]
  omega
 have e3:(wrap64 ((n:Int)/256)).tmod 256%256=(((UInt8.ofNat (n/256)).toNat:Nat):Int):=by
  rw[<-Qfe,show wrap64 ((n:Int)/256)=((n/256:Nat):Int) by have:=hn.out;unfold wrap64;omega,Int.tmod_eq_emod_of_nonneg (by omega)]
  omega
 have e4:(n:Int)%256=(((UInt8.ofNat n).toNat:Nat):Int):=Qfe n
 have H:=hid h;have E1:=hid e1;have E2:=hid e2;have E3:=hid e3;have E4:=hid e4;clear h e1 e2 e3 e4
 go_enter Tryz.func104,Tryz.ntmps104
 go_wp2_with fail
 rw[E1.out,E2.out,E3.out,E4.out,H.out];go_wp2;go_ret;exact⟨rfl,zI.alloc (zB _) _⟩
def padRow (f:List UInt8)(i:Nat):List UInt8:=Mc.put 54 (f.take i)++f.drop i++(Mc.put 92 (f.take i)++f.drop i)
def padOf (f:List UInt8):List UInt8:=Mc.put 54 f++Mc.put 92 f
theorem Qr1 (f:List UInt8)(h:f.length=64):padRow f 64=padOf f:=by
 rw[padRow,padOf,List.take_of_length_le (by omega),List.drop_of_length_le (by omega),List.append_nil,List.append_nil]
theorem Qov (f:List UInt8):padRow f 0=f++f:=by simp[padRow,Mc.put]
theorem Qlz (f:List UInt8)(h:f.length=64)(i:Nat)(hi:i<=64):(padRow f i).length=128:=by
 simp only[padRow,zE,Mc.put_length,List.length_take,List.length_drop,h]
 omega
theorem Qc1 (f:List UInt8)(h:f.length=64):(padOf f).length=128:=by rw[padOf,zE,Mc.put_length,Mc.put_length,h]
theorem Qeo (x:UInt8)(f:List UInt8)(h:f.length=64)(i:Nat)(hi:i<=64):(Mc.put x (f.take i)++f.drop i).length=64:=by
 simp only[zE,Mc.put_length,List.length_take,List.length_drop,h]
 omega
theorem Quy (x:UInt8)(f:List UInt8)(i:Nat)(hi:i<f.length):(Mc.put x (f.take i)++f.drop i)[i]?=some f[i]:=by
 have hl:(Mc.put x (f.take i)).length=i:=by rw[Mc.put_length,List.length_take];omega
 rw[List.getElem?_append_right (by omega),hl,Nat.sub_self,List.getElem?_drop]
 simp[hi]
theorem Qqw (x:UInt8)(f:List UInt8)(i:Nat)(hi:i<f.length):(Mc.put x (f.take i)++f.drop i).set i (f[i] ^^^ x)=Mc.put x (f.take (i+1))++f.drop (i+1):=by
 have hl:(Mc.put x (f.take i)).length=i:=by rw[Mc.put_length,List.length_take];omega
 rw[List.set_append_right _ _ (by omega),hl,Nat.sub_self,List.drop_eq_getElem_cons hi,List.set_cons_zero,List.take_succ_eq_append_getElem hi,Mc.put,Mc.put,List.map_append,List.append_assoc]
 rfl
theorem Qt9 (f:List UInt8)(h:f.length=64)(i:Nat)(hi:i<f.length):(padRow f i)[i]?=some f[i]:=by
 rw[padRow,List.getElem?_append_left (by rw[Qeo 54 f h i (by omega)];omega),Quy 54 f i hi]
theorem Qr0 (f:List UInt8)(h:f.length=64)(i:Nat)(hi:i<f.length):((padRow f i).set i (f[i] ^^^ 54))[64+i]?=some f[i]:=by
 have hl:=Qeo 54 f h i (by omega)
 rw[padRow,List.getElem?_set_ne (by omega),List.getElem?_append_right (by omega),hl,Nat.add_sub_cancel_left,Quy 92 f i hi]
theorem Qow (f:List UInt8)(h:f.length=64)(i:Nat)(hi:i<f.length):((padRow f i).set i (f[i] ^^^ 54)).set (64+i) (f[i] ^^^ 92)=padRow f (i+1):=by
 have hl:=Qeo 54 f h i (by omega)
 have hl2:=Qeo 54 f h (i+1) (by omega)
 rw[padRow,List.set_append_left _ _ (by omega),Qqw 54 f i hi,List.set_append_right _ _ (by omega),hl2,Nat.add_sub_cancel_left,Qqw 92 f i hi,padRow]
theorem padInfo:(Tryz.prog.info? 212).map (·.size)=some 128:=by kernel_rfl
theorem halfInfo:(Tryz.prog.info? 210).map (·.size)=some 64:=by kernel_rfl
def over (m:List UInt8)(o:Nat):List UInt8->List UInt8
 | []=>m
 | c::y=>over (m.set o c) (o+1) y
theorem Qi5:∀ (y a b:List UInt8),b.length=y.length->over (a++b) a.length y=a++y
 | [],a,b,h=>by
  obtain rfl:b=[]:=List.length_eq_zero_iff.1 h
  rfl
 | c::y,a,b,h=>by
  match b,h with
  | d::b,h=>
   have e:(a++d::b).set a.length c=(a++[c])++b:=by
    rw[List.set_append_right _ _ (zB _),Nat.sub_self,List.set_cons_zero,List.append_assoc]
    rfl
   have:=Qi5 y (a++[c]) b (by simpa using h)
   rw[zE,List.length_singleton] at this;rw[over,e,this,List.append_assoc]
   rfl
theorem Qfu (b:Nat)(t:TypeId):∀(y:List UInt8) (o:Nat) (m:List UInt8) (w:World),w.heap[b]?=some (.cells (bY m).toArray t (0,0))->(w.setCells b o (bY y)).heap[b]?=some (.cells (bY (over m o y)).toArray t (0,0))
 | [],_,_,_,h=>h
 | c::y,o,m,w,h=>by
  have h1:=Qaj h o (.int .u8 (c.toNat:Int));rw[show(bY m).set o (.int .u8 (c.toNat:Int))=bY (m.set o c) by simp[bY,List.map_set]] at h1
  exact Qfu b t y (o+1) (m.set o c) _ h1
theorem Kept.setCells {base b:Nat}{w1:World}{b':Nat}(hp:b'=b\/base<=b'):∀(vs:List Value) (o:Nat) (w:World),Kept base b w1 w->Kept base b w1 (w.setCells b' o vs)
 | [],_,_,h=>h
 | v::vs,o,_,h=>Kept.setCells hp vs (o+1) _ (h.set hp o v)
theorem Qge (b:Nat):∀(vs:List Value) (o:Nat) (w:World),(w.setCells b o vs).heap.size=w.heap.size
 | [],_,_=>rfl
 | v::vs,o,w=>by
  rw[World.setCells,Qge b vs (o+1) _];simp[World.setCell]
theorem Qdb {P:Program}(w:World)(g:Nat)(t:TypeId)(old cs:Array Value)(hg:w.heap[g]?=some (.cells old t (0,0)))(ho:old.size=cs.size)(h1:cs.all (·.oneCell')=true):(storeCells ⟨g,0,none⟩ cs.toList).run P w=.ok () (w.setRow g cs):=by
 have:=run_storeCells_from (P:=P) g t cs.toList 0 old w hg (by simp;omega) (λv hv=>(Array.all_eq_true_iff_forall_mem.1 h1) v (by simpa using hv))
 rw[this];simp
theorem Qmd {w:World}{b:Nat}{m:List UInt8}{t:TypeId}(h:w.heap[b]?=some (.cells (bY m).toArray t (0,0))){j:Nat}{x:UInt8}(hj:m[j]?=some x):w.cell? ⟨b,j,none⟩=some (.int .u8 (x.toNat:Int)):=by
 simp[World.cell?,h,bY,hj]
theorem Qj3 {w:World}{b:Nat}{m:List UInt8}{t:TypeId}(h:w.heap[b]?=some (.cells (bY m).toArray t (0,0)))(j:Nat)(x:UInt8):(w.setCell ⟨b,j,none⟩ (.int .u8 (x.toNat:Int))).heap[b]?=some (.cells (bY (m.set j x)).toArray t (0,0)):=by
 have h1:=Qaj h j (.int .u8 (x.toNat:Int))
 rwa[show(bY m).set j (.int .u8 (x.toNat:Int))=bY (m.set j x) by simp[bY,List.map_set]] at h1
theorem xor8 (x y:UInt8):bits .xor .u8 (x.toNat:Int) (y.toNat:Int)=((x ^^^ y).toNat:Int):=by
 rw[u8_xor_nat _ _ x.toNat_lt y.toNat_lt,UInt8.toNat_xor]
def padNil:Array Value:=(bY (List.replicate 128 0)).toArray
theorem Qly:Tryz.zeroCells212 = padNil:=by kernel_rfl
theorem Qql (k:List UInt8)(s:ByteArray)(h:s.data.toList=Mc.short k):s.size<=64:=by
 have h1:=Mc.short_length k;have h2:s.data.toList.length=s.size:=by simp
 rw[h] at h2
 omega
theorem Qm7 (key:ByteArray)(hk:Hid (key.size<1152921504606846976))(w:World):Calls Tryz.prog 139 #[.string key] w λe w'=>e=.returned (.agg (bY (padOf (Mc.filled key.data.toList))).toArray)/\Kept w.heap.size w.heap.size w w':=by
 go_enter Tryz.func139,Tryz.ntmps139
 go_upto_region 1 with fail
 rw[Qly];have hA:(w.alloc (.cells padNil 212)).heap[w.heap.size]?=some (.cells padNil 212 (0,0)):=Qaa _ _
 have k1:Kept w.heap.size w.heap.size w (w.alloc (.cells padNil 212)):=zI.alloc (zB _) _
 have s1:(w.alloc (.cells padNil 212)).heap.size=w.heap.size+1:=by simp
 generalize w.alloc (.cells padNil 212)=w1 at hA k1 s1 |-
 obtain⟨wa,hwa⟩:∃wa,wa=w.heap.size:=⟨_,rfl⟩;rw[<-hwa] at hA k1 s1 |-;have HWA:=hid hwa;have HA:=hid hA;have HK1:=hid k1;have HS1:=hid s1;clear hwa hA k1 s1
 go_upto_if 8 with fail
 go_cut [0] (λs wx=>∃T:ByteArray,s=.string T/\Hid (T.data.toList=Mc.short key.data.toList)/\Hid (Kept w1.heap.size w1.heap.size w1 wx))
 case first=>
  have hall:=Qae (Sm.sum key.data.toList);have hcs:(bY (Sm.sum key.data.toList)).toArray.size=32:=by rw[List.size_toArray,bZ,Qaw]
  have hone:=Qw7 key w1.heap.size (w1.alloc (.cells #[.string key] 9)) hk (by simp) (World.cell?_alloc_new w1 _ _ 0)
  have hcv:=λ(w:World)=>Qdx (w.alloc (.cells (bY (Sm.sum key.data.toList)).toArray 23)) w.heap.size (Sm.sum key.data.toList) _ (0,0) (Qaa _ _) 0 32 (Sm.sum key.data.toList) (by simp)
  rw[Qaw] at hcv;have Hone:=hid hone;have Hcv:=hid hcv;have Hall:=hid hall;have Hcs:=hid hcs;clear hone hcv hall hcs
  by_cases hl:64<key.size
  ·have hd:decide ((64:Int)<(key.size:Int))=true:=decide_eq_true (by omega)
   go_wp2_with fail
   refine Hone.out.mono ?_;rintro e w2 ⟨rfl,k2⟩
   go_wp2_with fail
   rw[Qce w2 23 _ _ (by rw[Hcs.out];rfl) Hall.out]
   go_wp2_with fail
   rw[Hcv.out w2];go_wp2
   go_meet
   refine⟨_,rfl,hid ?_,hid ?_⟩
   ·rw[Mc.short,zG (by simpa using hl)]
   ·exact(((zI.alloc (zB _) _).trans (k2.mono (by simp) (λk hk _=>by simp;omega))).alloc (by have:=k2.size;simp at this;omega) _)
  ·have hd:decide ((64:Int)<(key.size:Int))=false:=decide_eq_false (by omega)
   go_wp2
   go_meet
   refine⟨_,rfl,hid ?_,hid zI⟩;rw[Mc.short,if_neg (by simpa using hl)]
 case rest=>
  obtain⟨T,rfl,hT,hK⟩:=hcut;have hT64:=Qql _ T hT.out
  go_wp2_with fail
  rw[Qly];have hB:(wc.alloc (.cells padNil 212)).heap[wc.heap.size]?=some (.cells (bY (List.replicate 128 0)).toArray 212 (0,0)):=Qaa _ _
  have k2:Kept w1.heap.size w1.heap.size w1 (wc.alloc (.cells padNil 212)):=hK.out.alloc hK.out.size _
  have s2:(wc.alloc (.cells padNil 212)).heap.size=wc.heap.size+1:=by simp
  generalize wc.alloc (.cells padNil 212)=w2 at hB k2 s2 |-
  obtain⟨wb,hwb⟩:∃wb,wb=wc.heap.size:=⟨_,rfl⟩;have hbs:w1.heap.size<=wb:=by rw[hwb];exact hK.out.size
  rw[<-hwb] at hB s2 |-;clear hwb;have hcp:=Qe0 (P:=Tryz.prog) w2 106 9 3 5 wb 0 64 64 T _ 212 T.size (Nat.min_eq_left hT64).symm Tryz.underlying106 Qmw hB (by rw[List.size_toArray,bZ,List.length_replicate];omega)
  have hlT:T.data.toList.length=T.size:=by simp
  have hfl:Mc.filled key.data.toList=T.data.toList++List.replicate (64-T.size) 0:=by rw[Mc.filled,<-hT.out,hlT]
  have hfn:=Mc.filled_length key.data.toList;generalize hFF:Mc.filled key.data.toList=F at hfl hfn;have HFF:=hid hFF;clear hFF
  have hrow:((bY (List.replicate 128 0)).toArray.toList.take 0++bY (T.data.toList.take T.size)++(bY (List.replicate 128 0)).toArray.toList.drop (0+T.size)).toArray=(bY (F++List.replicate 64 0)).toArray:=by
   rw[List.take_zero,List.nil_append,List.take_of_length_le (Nat.le_of_eq hlT),Nat.zero_add,hfl];simp only[bY,List.map_replicate,List.drop_replicate,List.map_append,List.append_assoc,List.replicate_append_replicate];rw[show 128-T.size=64-T.size+64 by omega]
  rw[hrow] at hcp;have hC:=setRow_heap w2 wb (bY (List.replicate 128 0)).toArray (bY (F++List.replicate 64 0)).toArray _ _ hB
  have k3:Kept w1.heap.size w1.heap.size w1 (w2.setRow wb (bY (F++List.replicate 64 0)).toArray):=
   k2.trans ⟨rfl,rfl,rfl,by simp[World.setRow],λk hk _=>setRow_other w2 wb k _ (by omega)⟩
  have s3:(w2.setRow wb (bY (F++List.replicate 64 0)).toArray).heap.size=wb+1:=by rw[<-s2];simp[World.setRow]
  generalize w2.setRow wb (bY (F++List.replicate 64 0)).toArray=w3 at hcp hC k3 s3;have hr:=World.rangeAt_of_block hC 0 64
  have hx:((bY (F++List.replicate 64 0)).toArray.extract 0 (0+64)).toList=bY F:=by
   simp[bY,hfn]
  rw[hx] at hr
  have ht:w3.there wb 64 (bY F).toArray.size:=λj hj=>by
   have hj':j<64:=by rw[List.size_toArray,bZ,hfn] at hj;exact hj
   rw[Qby hC (64+j) (by rw[bZ,zE,hfn,List.length_replicate];omega)]
   exact⟨rfl,Qa0 hC _⟩
  have hall:=Qae F;have hsz:(bY F).length=64:=by rw[bZ,hfn]
  have hD:=Qfu wb _ F 64 _ _ hC;have hov:=Qi5 F F (List.replicate 64 0) (by rw[List.length_replicate,hfn])
  rw[hfn] at hov;rw[hov,<-Qov] at hD;have k4:=Kept.setCells (.inr hbs) (bY F) 64 w3 k3;have s4:=Qge wb (bY F) 64 w3;rw[s3] at s4;have Hcp:=hid hcp;have Hr:=hid hr;have Ht:=hid ht;have Hall:=hid hall;have Hsz:=hid hsz;have HD:=hid hD;have HK4:=hid k4;have HS4:=hid s4;have Hfn:=hid hfn;have Hbs:=hid hbs;clear hcp hr ht hall hsz hD hov k4 s4 hC k3 s3 hx hrow hlT hfl hfn hB k2 s2 hK hT hT64 hbs
  go_wp2_with fail
  rw[Hcp.out]
  go_wp2_with (first|(with_reducible refine wpList_load_mid rfl 210 _ rfl wb 0 rfl (bY F) _ Hr.out Tryz.underlying210 rfl (by rw[halfInfo,Hsz.out]) ?_)|(with_reducible refine wpList_store_mid rfl 210 _ _ rfl wb 64 (bY F).toArray rfl rfl Ht.out (by rw[halfInfo,List.size_toArray,Hsz.out]) Hall.out ?_))
  generalize w3.setCells wb 64 (bY F)=w4 at HD HK4 HS4 |-;clear Hcp Hr Ht Hall Hsz
  go_loopw [5,21] (λx5 j w9=>∃i:Nat,i<=64/\j=.int .i64 (i:Int)/\Hid (w9.heap[wb]?=some (.cells (bY (padRow F i)).toArray 212 (0,0)))/\Hid (Kept (wb+1) wb w4 w9)) (λ_ j _=>64-(RowKit.intOf j).toNat)
  case atStart=>exact⟨0,by omega,rfl,HD,hid zI⟩
  case round=>
   obtain⟨i,hi,rfl,hD,hK⟩:=hrel;have hln:=Qlz F Hfn.out i hi
   have HA2:wr.heap[wa]?=some (.cells padNil 212 (0,0)):=by
    have:=HS1.out;have:=Hbs.out;exact(hK.out.block wa (by omega) (by omega)).trans ((HK4.out.block wa (by omega) (by omega)).trans HA.out)
   by_cases hlt:i<64
   ·have hiF:i<F.length:=by rw[Hfn.out];exact hlt
    have hin:=Qt9 F Hfn.out i hiF;have hout:=Qr0 F Hfn.out i hiF;have hmore:=Qow F Hfn.out i hiF;generalize F[i]=X at hin hout hmore;have hc1:=Qmd hD.out hin;have hf1:=Qa0 hD.out i;have hs1:=Qj3 hD.out i (X ^^^ 54);have hc2:=Qmd hs1 hout;have hf2:=Qa0 hs1 (64+i);have hs2:=Qj3 hs1 (64+i) (X ^^^ 92);rw[hmore] at hs2;have hk2:=(hK.out.set (b':=wb) (.inl rfl) i (.int .u8 ((X ^^^ 54).toNat:Int))).set (b':=wb) (.inl rfl) (64+i) (.int .u8 ((X ^^^ 92).toNat:Int));have hx1:bits .xor .u8 (X.toNat:Int) 54=((X ^^^ 54).toNat:Int):=xor8 X 54;have hx2:bits .xor .u8 (X.toNat:Int) 92=((X ^^^ 92).toNat:Int):=xor8 X 92;generalize X ^^^ 54=A at *;generalize X ^^^ 92=B at *;have Hs2:=hid hs2;have Hk2:=hid hk2;clear hs1 hs2 hk2 hin hout hmore hln;go_wp2;exact⟨⟨i+1,by omega,by rw[Int.natCast_add];rfl,Hs2,Hk2⟩,by simp only[RowKit.intOf];omega⟩
   ·obtain rfl:i=64:=by omega
    have hD':=hD.out;rw[Qr1 F Hfn.out] at hD';have hsz:(bY (padOf F)).toArray.size=128:=by rw[List.size_toArray,bZ,Qc1 F Hfn.out]
    have hall:=Qae (padOf F);generalize hcs:(bY (padOf F)).toArray=cs at hD' hsz hall;have Hcs:=hid hcs;clear hcs
    go_wp2_with (first|(with_reducible refine wpList_load_row rfl 212 _ rfl wb rfl 212 cs (0,0) _ hD' Tryz.underlying212 rfl (by rw[padInfo,hsz]) ?_)|(with_reducible refine wpList_store_row rfl 212 _ _ rfl wa cs rfl rfl 212 _ HA2 (by rw[padInfo,hsz]) (by rw[hsz];rfl) hall ?_))
    rw[Qdb wr wa 212 padNil cs HA2 (by rw[hsz];rfl) hall]
    go_wp2_with fail
    obtain⟨t1,t2⟩:Kept wa wa w (wr.setRow wa cs)/\(wr.setRow wa cs).heap[wa]?=some (.cells cs 212 (0,0)):=by
     have h1:=HS1.out;have h2:=Hbs.out;refine⟨?_,setRow_heap wr wa padNil cs _ _ HA2⟩;exact((HK1.out.trans (HK4.out.mono (by omega) (λk hk _=>by omega))).trans (hK.out.mono (by omega) (λk hk _=>by omega))).trans ⟨rfl,rfl,rfl,by simp[World.setRow],λk hk _=>setRow_other wr wa k cs (by omega)⟩
    refine bodyPost_ret (results_cell_row rfl _ _ wa 212 cs (0,0) _ rfl t2 Tryz.underlying212 rfl (by rw[padInfo,hsz])) rfl ?_
    refine⟨by rw[HFF.out,Hcs.out],?_⟩;rw[<-HWA.out];exact t1
theorem Qji (s:ByteArray)(parts:List ByteArray):joined (s::parts) (s::parts).length=s.data.toList++joined parts parts.length:=by simp[joined]
theorem Qwe:(Tryz.prog.info? 9).map (λi=>(i.zero,i.size,i.bytes))=some (some (.string ⟨#[]⟩),1,16):=by kernel_rfl
theorem Qup:∃ i,Tryz.prog.info? 9=some i/\i.zero=some (.string ⟨#[]⟩)/\i.size=1/\i.bytes=16:=by
 have h:=Qwe
 cases hq:Tryz.prog.info? 9 with
 | none=>rw[hq] at h;cases h
 | some i=>
  rw[hq] at h;simp only[Option.map_some,Option.some.injEq,Prod.mk.injEq] at h;exact⟨i,rfl,h.1,h.2.1,h.2.2⟩
theorem Qsa (w:World)(c:Nat)(hc:c<2147483648):∃w',(Instr.makeSlice 225 (.int .i64 0) (.int .i64 (c:Int))).run Tryz.prog w=.ok (.slice (some ⟨w.heap.size,0,none⟩) 0 c) w' /\
  w'.ownsRow w.heap.size 9 1 (.slice (some ⟨w.heap.size,0,none⟩) 0 c) 0 []/\w.grownBy w' none:=by
 obtain⟨i,hi,hz,hs,hb⟩:=Qup;exact run_make_own (P:=Tryz.prog) w w.heap.size 225 9 i (.string ⟨#[]⟩) 1 Tryz.underlying225 hi hz hs .i64 .i64 c (by rw[hb];omega) (by unfold maxLen;omega) (zB _)
theorem Qh5 (w:World)(base:Nat)(v:Value)(n:Nat)(xs:List Value)(hown:w.ownsRow base 9 1 v n xs)(hbase:base<=w.heap.size)(ad:Option Addr)(m c g o:Nat)(news:List ByteArray)(hm:news.length=m)(hnil:ad=none->m=0/\c=0)
  (hcell:∀j (hj:j<news.length),ad=some ⟨g,o,none⟩/\w.cell? ⟨g,o+j,none⟩=some (.string news[j])) (hb:n+m<2147483648) :
  ∃v' w',(Builtin.append_ #[225,225] 225 #[v,.slice ad m c]).run Tryz.prog w=.ok v' w'/\w'.ownsRow base 9 1 v' (n+m) (xs++news.map .string)/\w.grownBy w' v.ownBlock:=by
 obtain⟨i,hi,hz,hs,hby⟩:=Qup
 match ad,hnil,hcell with
 | none,hnil,_=>
  obtain⟨rfl,rfl⟩:=hnil rfl;obtain rfl:news=[]:=List.length_eq_zero_iff.1 hm;have:=run_append_owned_none (P:=Tryz.prog) (w:=w) base 225 225 9 i 1 Tryz.underlying225 hi v n xs hown
  exact⟨v,w,this,by simpa using hown,⟨rfl,rfl,rfl,zB _,λ_ _ _=>rfl⟩⟩
 | some a,_,hcell=>
  obtain⟨v',w',h1,h2,h3,_⟩:=run_append_own (P:=Tryz.prog) w base 225 225 9 i (.string ⟨#[]⟩) 1 16 Tryz.underlying225 hi hz hs hby rfl (by decide) v n xs hown a m c (news.map .string)
   (by rw[List.length_map];omega) (λj u hu=>by
    rw[List.getElem?_map] at hu
    have hj:j<news.length:=by
     rcases Nat.lt_or_ge j news.length with h|h
     ·exact h
     ·rw[List.getElem?_eq_none h] at hu;cases hu
    obtain⟨h1,h2⟩:=hcell j hj
    cases h1
    rw[List.getElem?_eq_getElem hj] at hu;simp only[Option.map_some,Option.some.injEq] at hu
    rw[Addr.add_lit,h2,hu])
   (λu hu=>by
    obtain⟨x,_,rfl⟩:=List.mem_map.1 hu
    rfl) (by unfold maxLen;omega) (by omega) hbase
  exact⟨v',w',h1,h2,h3⟩
theorem Qr5 {w:World}{base:Nat}{v:Value}{n:Nat}{xs:List ByteArray}(h:w.ownsRow base 9 1 v n (xs.map .string))(hn:0<n):
  ∃g cap,v=.slice (some ⟨g,0,none⟩) xs.length cap/\base<=g/\g<w.heap.size/\∀j (hj:j<xs.length),w.cell? ⟨g,0+j,none⟩=some (.string xs[j]):=by
 have hl:=h.1;rw[List.length_map,Nat.mul_one] at hl;have hlt:=h.lt;have h0:=h
 rcases h.2 with⟨_,rfl⟩|⟨g,cap,cur,rfl,hb,_⟩
 ·exact absurd hn (Nat.lt_irrefl _)
 ·refine⟨g,cap,by rw[hl],hb,(hlt g rfl).2,λj hj=>?_⟩
  have:=h0.cells (g:=g) rfl j (.string xs[j]) (by rw[List.getElem?_map,List.getElem?_eq_getElem hj];rfl)
  rwa[Addr.add_lit] at this
theorem Qim (f:List UInt8)(hf:Hid (f.length=64))(parts:List ByteArray)(ad:Option Addr)(c g o:Nat)(w:World)(hlen:Hid (parts.length<1073741824))(htot:Hid ((joined parts parts.length).length<1073741824))
  (hnil:Hid (ad=none->parts.length=0/\c=0)) (hcell:∀j (hj:j<parts.length),ad=some ⟨g,o,none⟩/\g<w.heap.size/\w.cell? ⟨g,o+j,none⟩=some (.string parts[j])) :
  Calls Tryz.prog 140 #[.agg (bY (padOf f)).toArray,.slice ad parts.length c] w λe w'=>e=.returned (.agg (bY (Mc.under f (joined parts parts.length))).toArray)/\Kept w.heap.size w.heap.size w w':=by
 have HC:=hid hcell;clear hcell;have hps:(bY (padOf f)).toArray.size=128:=by rw[List.size_toArray,bZ,Qc1 f hf.out]
 generalize hpc:(bY (padOf f)).toArray=pc at hps;have Hpc:=hid hpc;clear hpc;have hl2:=hlen.out
 go_enter Tryz.func140,Tryz.ntmps140
 go_upto_region 1 with fail
 rw[Qao];have hP:((w.alloc (.cells pc 212)).alloc (.cells zY 23)).heap[w.heap.size]?=some (.cells pc 212 (0,0)):=heap_alloc2_old w _ _
 have hR:((w.alloc (.cells pc 212)).alloc (.cells zY 23)).heap[w.heap.size+1]?=some (.cells zY 23 (0,0)):=Qaq w _ _
 have k1:Kept w.heap.size w.heap.size w ((w.alloc (.cells pc 212)).alloc (.cells zY 23)):=(zI.alloc (zB _) _).alloc (by simp) _
 have s1:((w.alloc (.cells pc 212)).alloc (.cells zY 23)).heap.size=w.heap.size+2:=by simp
 generalize (w.alloc (.cells pc 212)).alloc (.cells zY 23)=w1 at hP hR k1 s1 |-
 obtain⟨wa,hwa⟩:∃wa,wa=w.heap.size:=⟨_,rfl⟩;rw[<-hwa] at hP hR k1 s1 |-;have HWA:=hid hwa;have HP:=hid hP;have HR:=hid hR;have HK1:=hid k1;have HS1:=hid s1;clear hwa hP hR k1 s1;obtain⟨w2,hm,ho2,hg2⟩:=Qsa w1 (1+parts.length) (by omega)
 rw[Int.natCast_add] at hm;have k2:Kept w1.heap.size w1.heap.size w1 w2:=zI.grown hg2 (zB _) (λk h=>by cases h)
 generalize hv2:Value.slice (some ⟨w1.heap.size,0,none⟩) 0 (1+parts.length)=v2 at hm ho2;have hb2:∀k,v2.ownBlock=some k->w1.heap.size<=k:=λk h=>(ho2.lt k h).1
 have hP2:=(k2.block wa (by have:=HS1.out;omega) (by have:=HS1.out;omega)).trans HP.out
 have Hm:=hid hm;have HK2:=hid k2;have HP2:=hid hP2;have HO2:=hid ho2;have HB2:=hid hb2;clear hm k2 hP2 ho2 hg2 hb2 hv2
 have hcv1:∀w':World,w'.heap[wa]?=some (.cells pc 212 (0,0))->(convert 106 9 (.slice (some ⟨wa,0,none⟩) 64 64)).run Tryz.prog w'=.ok (.string (str (Mc.put 54 f))) w':=λw' h=>by
  rw[<-Hpc.out] at h;have:=Qdx w' wa (padOf f) _ _ h 0 64 (Mc.put 54 f) (by rw[List.drop_zero,padOf,List.take_left])
  rwa[Mc.put_length,hf.out] at this
 have hcv2:∀w':World,w'.heap[wa]?=some (.cells pc 212 (0,0))->(convert 106 9 (.slice (some ⟨wa,64,none⟩) 64 64)).run Tryz.prog w'=.ok (.string (str (Mc.put 92 f))) w':=λw' h=>by
  rw[<-Hpc.out] at h
  have:=Qdx w' wa (padOf f) _ _ h 64 64 (Mc.put 92 f) (by
   have hl:(Mc.put 54 f).length=64:=by rw[Mc.put_length,hf.out]
   rw[padOf,<-hl,List.drop_left,List.take_length])
  rwa[Mc.put_length,hf.out] at this
 have Hcv1:=hid hcv1;have Hcv2:=hid hcv2;clear hcv1 hcv2;obtain⟨s1,hs1⟩:∃s1,s1=str (Mc.put 54 f):=⟨_,rfl⟩;obtain⟨s2,hs2⟩:∃s2,s2=str (Mc.put 92 f):=⟨_,rfl⟩;rw[<-hs1] at Hcv1;rw[<-hs2] at Hcv2;have Hs1:=hid hs1;have Hs2:=hid hs2;clear hs1 hs2
 obtain⟨v3,w3,hr3,ho3,hg3⟩:=Qh5 (w2.alloc (.cells #[.string s1] 9)) w1.heap.size v2 0 [] (HO2.out.alloc _) (by have:=HK2.out.size;simp;omega) (some ⟨w2.heap.size,0,none⟩) 1 1 w2.heap.size 0 [s1] rfl (λh=>by cases h) (λj hj=>by
  obtain rfl:j=0:=by simp at hj;omega
  exact⟨rfl,World.cell?_alloc_new w2 _ _ 0⟩) (by omega)
 have k3:Kept w1.heap.size w1.heap.size w1 w3:=(HK2.out.alloc HK2.out.size _).grown hg3 (by have:=HK2.out.size;simp;omega) HB2.out
 have hb3:∀k,v3.ownBlock=some k->w1.heap.size<=k:=λk h=>(ho3.lt k h).1
 obtain⟨v4,w4,hr4,ho4,hg4⟩:=Qh5 w3 w1.heap.size v3 (0+1) _ ho3 k3.size ad parts.length c g o parts rfl hnil.out (λj hj=>by
  obtain⟨h1,h2,h3⟩:=HC.out j hj;refine⟨h1,?_⟩;have h4:=HK1.out.cell (p:=⟨g,o+j,none⟩) (by show g<_;rw[HWA.out];exact h2) (by show g≠_;rw[HWA.out];omega)
  have h5:=k3.cell (p:=⟨g,o+j,none⟩) (by show g<_;have:=HS1.out;have:=HWA.out;omega) (by show g≠_;have:=HS1.out;have:=HWA.out;omega)
  rw[h5,h4,h3]) (by omega)
 have k4:Kept w1.heap.size w1.heap.size w1 w4:=k3.grown hg4 k3.size hb3;rw[show []++List.map Value.string [s1]++List.map Value.string parts=(s1::parts).map Value.string by simp] at ho4
 obtain⟨g4,c4,rfl,hbg,hlt4,hc4⟩:=Qr5 ho4 (by omega)
 have hP4:=(k4.block wa (by have:=HS1.out;omega) (by have:=HS1.out;omega)).trans HP.out
 have hR4:=(k4.block (wa+1) (by have:=HS1.out;omega) (by have:=HS1.out;omega)).trans HR.out
 have hjc:=Qji s1 parts;have hl1:s1.data.toList=Mc.put 54 f:=by rw[Hs1.out]
 rw[hl1] at hjc
 have hjl:(joined (s1::parts) (s1::parts).length).length<1152921504606846976:=by
  rw[hjc,zE,Mc.put_length,hf.out];have:=htot.out
  omega
 have hsum:=Qgc (s1::parts) (some ⟨g4,0,none⟩) c4 g4 0 w4 (hid (by rw[List.length_cons];omega)) (hid hjl) (λj hj=>⟨rfl,hlt4,hc4 j hj⟩)
 rw[hjc] at hsum;generalize hS:Sm.sum (Mc.put 54 f++joined parts parts.length)=S at hsum;have hS32:S.length=32:=by rw[<-hS];exact Qaw _
 have hcs:(bY S).toArray.size=32:=by rw[List.size_toArray,bZ,hS32]
 have hall:=Qae S;have HS:=hid hS;have Hsum:=hid hsum;have HS32:=hid hS32;have Hcs:=hid hcs;have Hall:=hid hall;have Hr3:=hid hr3;have Hr4:=hid hr4;have HK4:=hid k4;have HP4:=hid hP4;have HR4:=hid hR4;clear hsum hS hS32 hcs hall hr3 hr4 k4 k3 hb3 hP4 hR4 hjc hjl hl1 ho3 ho4 hg3 hg4 hbg hlt4 hc4
 go_wp2_with fail
 rw[show(1:Int)=((1:Nat):Int) from rfl,Hm.out]
 go_wp2_with fail
 rw[Hcv1.out _ HP2.out]
 go_wp2_with (first|(with_reducible refine Qal rfl _ _ 225 225 225 rfl rfl v2 (.slice (some ⟨w2.heap.size,0,none⟩) 1 1) rfl rfl Hr3.out ?_)|(with_reducible refine Qal rfl _ _ 225 225 225 rfl rfl v3 (.slice ad parts.length c) rfl rfl Hr4.out ?_))
 refine Hsum.out.mono ?_;rintro e w5 ⟨rfl,k5⟩
 go_wp2_with fail
 rw[Qce w5 23 _ _ (by rw[Hcs.out];rfl) Hall.out]
 go_upto_region 5 with fail
 have hws:wa+2<=w5.heap.size:=by
  have h1:=HS1.out;have h2:=HK4.out.size;have h3:=k5.size
  omega
 have k14:Kept w.heap.size w.heap.size w w5:=by
  have h1:=HS1.out;have h2:=HWA.out;have h3:=HK4.out.size;rw[<-h2];exact(HK1.out.trans (HK4.out.mono (by omega) (λk hk _=>by omega))).trans (k5.mono (by omega) (λk hk _=>by omega))
 have hP5:=(k5.block wa (by have:=HK4.out.size;have:=HS1.out;omega) (by have:=HK4.out.size;have:=HS1.out;omega)).trans HP4.out
 have hR5:=(k5.block (wa+1) (by have:=HK4.out.size;have:=HS1.out;omega) (by have:=HK4.out.size;have:=HS1.out;omega)).trans HR4.out
 have hP6:(w5.alloc (.cells (bY S).toArray 23)).heap[wa]?=some (.cells pc 212 (0,0)):=(Below.heap_alloc _ _ _ (by omega)).trans hP5
 have hR6:(w5.alloc (.cells (bY S).toArray 23)).heap[wa+1]?=some (.cells zY 23 (0,0)):=(Below.heap_alloc _ _ _ (by omega)).trans hR5
 have hS6:(w5.alloc (.cells (bY S).toArray 23)).heap[w5.heap.size]?=some (.cells (bY S).toArray 23 (0,0)):=Qaa _ _
 have k6:Kept w.heap.size w.heap.size w (w5.alloc (.cells (bY S).toArray 23)):=k14.alloc (by have:=HWA.out;omega) _
 have s6:(w5.alloc (.cells (bY S).toArray 23)).heap.size=w5.heap.size+1:=by simp
 generalize w5.alloc (.cells (bY S).toArray 23)=w6 at hP6 hR6 hS6 k6 s6 |-
 obtain⟨wc,hwc⟩:∃wc,wc=w5.heap.size:=⟨_,rfl⟩;rw[<-hwc] at hS6 s6 hws |-;clear k14 hP5 hR5 hwc k5 Hsum Hr3 Hr4 HK4 HP4 HR4 HP2 HO2 HB2 Hm HK2;refine wp_region_still_tail 5 (by kernel_rfl) (by kernel_rfl) ?_
 simp only[List.take_succ_cons,List.take_zero,List.drop_succ_cons,List.drop_zero];generalize hw9:({ heap:=w6.heap,tape:=w6.tape,drawn:=w6.drawn+1,os:=w6.os,output:=w6.output }:World)=wd
 have c1:=Hcv2.out wd (by rw[<-hw9];exact hP6)
 have c2:(convert 106 9 (.slice (some ⟨wc,0,none⟩) 32 32)).run Tryz.prog wd=.ok (.string (str S)) wd:=by
  have:=Qdx wd wc S 23 (0,0) (by rw[<-hw9];exact hS6) 0 32 S (by rw[List.drop_zero,List.take_length])
  rwa[HS32.out] at this
 have hRd:wd.heap[wa+1]?=some (.cells zY 23 (0,0)):=by rw[<-hw9];exact hR6
 have kd:Kept w.heap.size w.heap.size w wd:=by rw[<-hw9];exact k6.drew
 have sd:wd.heap.size=wc+1:=by rw[<-hw9];exact s6
 obtain⟨s3,hs3⟩:∃s3,s3=str S:=⟨_,rfl⟩;rw[<-hs3] at c2;clear hw9 hP6 hR6 hS6 k6 s6
 have hj2:joined [s2,s3] [s2,s3].length=Mc.put 92 f++S:=by
  rw[Qji,show joined [s3] [s3].length=s3.data.toList by simp[joined],Hs2.out,hs3]
 have hsum:=Qgc [s2,s3] (some ⟨wd.heap.size,0,none⟩) 2 wd.heap.size 0 (wd.alloc (.cells #[.string s2,.string s3] 9)) (hid (by show 2<_;decide)) (hid (by rw[hj2,zE,Mc.put_length,hf.out,HS32.out];decide)) (λj hj=>by
  refine⟨rfl,by simp,?_⟩
  have hj':j=0\/j=1:=by simp at hj;omega
  rcases hj' with rfl|rfl
  ·exact World.cell?_alloc_new wd _ _ 0
  ·exact World.cell?_alloc_new wd _ _ 1)
 rw[hj2] at hsum;generalize hU:Sm.sum (Mc.put 92 f++S)=U at hsum;have hU32:U.length=32:=by rw[<-hU];exact Qaw _
 have hcs:(bY U).toArray.size=32:=by rw[List.size_toArray,bZ,hU32]
 have hall:=Qae U;have hUF:(bY (Mc.under f (joined parts parts.length))).toArray=(bY U).toArray:=by rw[Mc.under,HS.out,hU]
 generalize (bY U).toArray=cu at hsum hcs hall hUF;have Hsum:=hid hsum;have HUF:=hid hUF;have Hall2:=hid hall;have Hcs2:=hid hcs;have HRd:=hid hRd;have Hkd:=hid kd;have Hsd:=hid sd;clear hsum hj2 hU hUF hall hcs hRd kd sd hs3
 repeat still_step
 refine wpStill_nil ?_
 go_wp2_with fail
 refine Hsum.out.mono ?_;rintro e w8 ⟨rfl,k8⟩;have hR8:=(k8.block (wa+1) (by have:=Hsd.out;simp;omega) (by have:=Hsd.out;simp;omega)).trans ((Below.heap_alloc _ _ _ (by have:=Hsd.out;omega)).trans HRd.out)
 have hk8:Kept w.heap.size w.heap.size w w8:=by
  have h1:=HWA.out;have h2:=Hsd.out;exact(Hkd.out.alloc (by omega) _).trans (k8.mono (by simp;omega) (λk hk _=>by simp;omega))
 have hz32:=Qah;generalize zY=z at hR8 hz32;have hcu:=Hcs2.out
 go_wp2_with (with_reducible refine wpList_store_row rfl 23 _ _ rfl (wa+1) cu rfl rfl 23 _ hR8 (by rw[Qbi,hcu]) (by rw[hz32,hcu]) Hall2.out ?_)
 obtain⟨t1,t2⟩:Kept w.heap.size w.heap.size w (w8.setRow (wa+1) cu)/\(w8.setRow (wa+1) cu).heap[wa+1]?=some (.cells cu 23 (0,0)):=
  ⟨hk8.trans ⟨rfl,rfl,rfl,by simp[World.setRow],λk hk _=>setRow_other w8 (wa+1) k cu (by have:=HWA.out;omega)⟩,setRow_heap w8 (wa+1) z cu _ _ hR8⟩
 refine bodyPost_ret (results_cell_row rfl _ _ (wa+1) 23 cu (0,0) _ rfl t2 Tryz.underlying23 rfl (by rw[Qbi,hcu])) rfl ?_
 exact⟨by rw[HUF.out],t1⟩
theorem Qs7 (key:ByteArray)(hk:Hid (key.size<1073741824))(parts:List ByteArray)(ad:Option Addr)(c g o:Nat)(w:World)(hlen:Hid (parts.length<1073741824))(htot:Hid ((joined parts parts.length).length<1073741824))
  (hnil:Hid (ad=none->parts.length=0/\c=0)) (hcell:∀j (hj:j<parts.length),ad=some ⟨g,o,none⟩/\g<w.heap.size/\w.cell? ⟨g,o+j,none⟩=some (.string parts[j])) :
  Calls Tryz.prog 129 #[.string key,.slice ad parts.length c] w λe w'=>e=.returned (.agg (bY (Mc.code key.data.toList (joined parts parts.length))).toArray)/\Kept w.heap.size w.heap.size w w':=by
 have HC:=hid hcell;clear hcell
 go_enter Tryz.func129,Tryz.ntmps129
 go_upto_region 1 with fail
 rw[Qao];have hA:(w.alloc (.cells zY 23)).heap[w.heap.size]?=some (.cells zY 23 (0,0)):=Qaa _ _
 have k1:Kept w.heap.size w.heap.size w (w.alloc (.cells zY 23)):=zI.alloc (zB _) _
 have s1:(w.alloc (.cells zY 23)).heap.size=w.heap.size+1:=by simp
 generalize w.alloc (.cells zY 23)=w1 at hA k1 s1 |-
 obtain⟨wa,hwa⟩:∃wa,wa=w.heap.size:=⟨_,rfl⟩;rw[<-hwa] at hA k1 s1 |-;have HWA:=hid hwa;clear hwa;have hp:=Qm7 key (hid (by have:=hk.out;omega)) w1
 have HFL:Hid ((Mc.filled key.data.toList).length=64):=hid (Mc.filled_length _);generalize hF:Mc.filled key.data.toList=F at hp HFL;have HF:=hid hF;have HP:=hid hp;have HA:=hid hA;have HK1:=hid k1;have HS1:=hid s1;clear hp hF hA k1 s1
 go_wp2_with fail
 refine HP.out.mono ?_;rintro e w2 ⟨rfl,k2⟩
 have hsum:=Qim F HFL parts ad c g o w2 hlen htot hnil (λj hj=>by
  obtain⟨h1,h2,h3⟩:=HC.out j hj;have e1:=HWA.out;have e2:=HS1.out;refine⟨h1,by have:=k2.size;omega,?_⟩
  rw[k2.cell (p:=⟨g,o+j,none⟩) (by show g<_;omega) (by show g≠_;omega),HK1.out.cell (p:=⟨g,o+j,none⟩) (by show g<_;omega) (by show g≠_;omega),h3])
 have hU32:(Mc.under F (joined parts parts.length)).length=32:=Mc.under_length _ _;have hcs:(bY (Mc.under F (joined parts parts.length))).toArray.size=32:=by rw[List.size_toArray,bZ,hU32]
 have hall:=Qae (Mc.under F (joined parts parts.length));have hUF:(bY (Mc.code key.data.toList (joined parts parts.length))).toArray=(bY (Mc.under F (joined parts parts.length))).toArray:=by rw[Mc.code,HF.out]
 generalize (bY (Mc.under F (joined parts parts.length))).toArray=cu at hsum hcs hall hUF;have Hsum:=hid hsum;have HUF:=hid hUF;have Hall2:=hid hall;have Hcs2:=hid hcs;have HK2:=hid k2;clear hsum hU32 hcs hall hUF k2;generalize (bY (padOf F)).toArray=pc at Hsum |-
 go_wp2_with fail
 refine Hsum.out.mono ?_;rintro e w8 ⟨rfl,k8⟩;have hR8:=(k8.block wa (by have:=HS1.out;have:=HK2.out.size;omega) (by have:=HS1.out;have:=HK2.out.size;omega)).trans ((HK2.out.block wa (by have:=HS1.out;omega) (by have:=HS1.out;omega)).trans HA.out)
 have hk8:Kept w.heap.size w.heap.size w w8:=by
  have h1:=HWA.out;have h2:=HS1.out;have h3:=HK2.out.size;rw[<-h1];exact(HK1.out.trans (HK2.out.mono (by omega) (λk hk _=>by omega))).trans (k8.mono (by omega) (λk hk _=>by omega))
 have hz32:=Qah;generalize zY=z at hR8 hz32;have hcu:=Hcs2.out
 go_wp2_with (with_reducible refine wpList_store_row rfl 23 _ _ rfl wa cu rfl rfl 23 _ hR8 (by rw[Qbi,hcu]) (by rw[hz32,hcu]) Hall2.out ?_)
 obtain⟨t1,t2⟩:Kept w.heap.size w.heap.size w (w8.setRow wa cu)/\(w8.setRow wa cu).heap[wa]?=some (.cells cu 23 (0,0)):=
  ⟨hk8.trans ⟨rfl,rfl,rfl,by simp[World.setRow],λk hk _=>setRow_other w8 wa k cu (by have:=HWA.out;omega)⟩,setRow_heap w8 wa z cu _ _ hR8⟩
 refine bodyPost_ret (results_cell_row rfl _ _ wa 23 cu (0,0) _ rfl t2 Tryz.underlying23 rfl (by rw[Qbi,hcu])) rfl ?_
 exact⟨by rw[HUF.out],t1⟩
theorem Qfd {w:World}{b:Nat}{l:List UInt8}(hl:l.length=32){t:TypeId}{fr:Nat × Nat}(h:w.heap[b]?=some (.cells (bY l).toArray t fr)):(convert 106 9 (.slice (some ⟨b,0,none⟩) 32 32)).run Tryz.prog w=.ok (.string (str l)) w:=by
 have:=Qdx w b l t fr h 0 32 l (by rw[List.drop_zero,List.take_length])
 rwa[hl] at this
theorem Qgd (l:List UInt8):(str l).data.toList=l:=rfl
theorem Qdw (k:List UInt8)(hk:Hid (k.length=32))(label context:ByteArray)(h1:Hid (label.size<268435456))(h2:Hid (context.size<268435456))(w:World):
  Calls Tryz.prog 98 #[.agg (bY k).toArray,.string label,.string context] w λe w'=>e=.returned (.agg (bY (Mc.derive k label.data.toList context.data.toList)).toArray)/\Kept w.heap.size w.heap.size w w':=by
 generalize hkc:(bY k).toArray=kc;have Hkc:=hid hkc;clear hkc
 go_enter Tryz.func98,Tryz.ntmps98
 go_upto_region 1 with fail
 rw[Qao];have hP:((w.alloc (.cells kc 23)).alloc (.cells zY 23)).heap[w.heap.size]?=some (.cells kc 23 (0,0)):=heap_alloc2_old w _ _
 have hR:((w.alloc (.cells kc 23)).alloc (.cells zY 23)).heap[w.heap.size+1]?=some (.cells zY 23 (0,0)):=Qaq w _ _
 have k1:Kept w.heap.size w.heap.size w ((w.alloc (.cells kc 23)).alloc (.cells zY 23)):=(zI.alloc (zB _) _).alloc (by simp) _
 have s1:((w.alloc (.cells kc 23)).alloc (.cells zY 23)).heap.size=w.heap.size+2:=by simp
 generalize (w.alloc (.cells kc 23)).alloc (.cells zY 23)=w1 at hP hR k1 s1 |-
 obtain⟨wa,hwa⟩:∃wa,wa=w.heap.size:=⟨_,rfl⟩;rw[<-hwa] at hP hR k1 s1 |-
 have hcv:∀w',Kept w1.heap.size w1.heap.size w1 w'->(convert 106 9 (.slice (some ⟨wa,0,none⟩) 32 32)).run Tryz.prog w'=.ok (.string (str k)) w':=λw' kk=>
  Qfd hk.out (by rw[Hkc.out];exact(kk.block wa (by omega) (by omega)).trans hP)
 have hrow:∀w',Kept w1.heap.size w1.heap.size w1 w'->w'.heap[wa+1]?=some (.cells zY 23 (0,0)):=λw' kk=>(kk.block (wa+1) (by omega) (by omega)).trans hR
 have hcode:∀w':World,Calls Tryz.prog 129 #[.string (str k),.slice (some ⟨w'.heap.size,0,none⟩) 3 3] (w'.alloc (.cells #[.string (str (Mc.four label.size)),.string label,.string context] 9)) λe w''=>e=.returned (.agg (bY (Mc.derive k label.data.toList context.data.toList)).toArray)/\Kept (w'.heap.size+1) (w'.heap.size+1) (w'.alloc (.cells #[.string (str (Mc.four label.size)),.string label,.string context] 9)) w'':=λw'=>by
  have hj:joined [str (Mc.four label.size),label,context] [str (Mc.four label.size),label,context].length=Mc.four label.size++label.data.toList++context.data.toList:=by simp[joined]
  have hll:label.data.toList.length=label.size:=by simp
  have hcl:context.data.toList.length=context.size:=by simp
  have:=Qs7 (str k) (hid (by rw[Qai,hk.out];decide)) [str (Mc.four label.size),label,context] (some ⟨w'.heap.size,0,none⟩) 3 w'.heap.size 0 (w'.alloc (.cells #[.string (str (Mc.four label.size)),.string label,.string context] 9)) (hid (by show 3<_;decide))
   (hid (by rw[hj,zE,zE,hll,hcl,Mc.four_length];have:=h1.out;have:=h2.out;omega)) (hid λh=>by cases h) (λj hj=>by
    refine⟨rfl,by simp,?_⟩
    have hj':j=0\/j=1\/j=2:=by simp at hj;omega
    rcases hj' with rfl|rfl|rfl
    ·exact World.cell?_alloc_new w' _ _ 0
    ·exact World.cell?_alloc_new w' _ _ 1
    ·exact World.cell?_alloc_new w' _ _ 2)
  rw[hj,Qgd] at this;rw[Mc.derive,hll];have hsz:(w'.alloc (.cells #[.string (str (Mc.four label.size)),.string label,.string context] 9)).heap.size=w'.heap.size+1:=by simp
  rw[hsz] at this;exact this
 have hcs:(bY (Mc.derive k label.data.toList context.data.toList)).toArray.size=32:=by rw[List.size_toArray,bZ,Mc.derive_length]
 have hall:=Qae (Mc.derive k label.data.toList context.data.toList);generalize hcu:(bY (Mc.derive k label.data.toList context.data.toList)).toArray=cu at hcode hcs hall;have hfour:=λw=>Qk5 label.size w
 have hst:∀w',w'.heap[wa+1]?=some (.cells zY 23 (0,0))->(storeCells ⟨wa+1,0,none⟩ cu.toList).run Tryz.prog w'=.ok () (w'.setRow (wa+1) cu):=λw' h=>Qdb w' (wa+1) 23 zY cu h (by rw[hcs];rfl) hall
 generalize str (Mc.four label.size)=s4 at hfour hcode;generalize str k=sk at hcv hcode;have HCV:=hid hcv;have HROW:=hid hrow;have HCODE:=hid hcode;have HST:=hid hst;have Hcs:=hid hcs;have Hcu:=hid hcu;have H4:=hid hfour;have HK1:=hid k1;have HS1:=hid s1;have HWA:=hid hwa;have cA:=hcv w1.drew zI.drew;clear hcv hrow hcode hst hcs hcu hfour hP hR k1 s1 hwa hall
 go_region_with (first
  | (go_at_call 130;refine(H4.out _).mono ?_;rintro e w7 ⟨rfl,k7⟩;have K7:Kept w1.heap.size w1.heap.size w1 w7:=zI.drew.trans k7;have c7:=HCV.out w7 K7;have c7b:=HCV.out (w7.alloc (.cells #[.string s4,.string label,.string context] 9)) (K7.alloc K7.size _))
  | (go_at_call 129;refine(HCODE.out _).mono ?_;rintro e w8 ⟨rfl,k8⟩;have K8:Kept w1.heap.size w1.heap.size w1 w8:=(K7.alloc K7.size _).trans (k8.mono (by have:=K7.size;omega) (λk hk _=>by have:=K7.size;omega));have h8:=HST.out w8 (HROW.out w8 K8)))
 all_goals
  have t2:=setRow_heap w8 (wa+1) zY cu _ _ (HROW.out w8 K8)
  have t1:Kept w.heap.size w.heap.size w (w8.setRow (wa+1) cu):=by
   have e1:=HWA.out;have e2:=HS1.out;refine Kept.trans (w2:=w8) ?_ ⟨rfl,rfl,rfl,by simp[World.setRow],λk hk _=>setRow_other w8 (wa+1) k cu (by omega)⟩
   rw[<-e1];exact HK1.out.trans (K8.mono (by omega) (λk hk _=>by omega))
  have hcu:=Hcs.out
  go_wp2_with fail
  refine bodyPost_ret (results_cell_row rfl _ _ (wa+1) 23 cu (0,0) _ rfl t2 Tryz.underlying23 rfl (by rw[Qbi,hcu])) rfl ?_
  exact⟨by rw[Hcu.out],t1⟩
theorem Qsc (w:World)(c:Nat)(hc:c<2147483648):∃w',(Instr.makeSlice 106 (.int .i64 0) (.int .i64 (c:Int))).run Tryz.prog w=.ok (.slice (some ⟨w.heap.size,0,none⟩) 0 c) w' /\
  w'.ownsRow w.heap.size 5 1 (.slice (some ⟨w.heap.size,0,none⟩) 0 c) 0 []/\w.grownBy w' none:=by
 obtain⟨i,hi,hz,hs,hb⟩:=Qhp;exact run_make_own (P:=Tryz.prog) w w.heap.size 106 5 i (.int .u8 0) 1 Tryz.underlying106 hi hz hs .i64 .i64 c (by rw[hb];omega) (by unfold maxLen;omega) (zB _)
theorem Qn8 (w:World)(base:Nat)(v:Value)(l:List UInt8)(hown:w.ownsRow base 5 1 v l.length (bY l))(hbase:base<=w.heap.size)(b c:Nat)(m:List UInt8){t:TypeId}{fr:Nat × Nat}(hb:w.heap[b]?=some (.cells (bY m).toArray t fr))(hl:l.length+m.length<2147483648):
  ∃v' w',(Builtin.append_ #[106,106] 106 #[v,.slice (some ⟨b,0,none⟩) m.length c]).run Tryz.prog w=.ok v' w'/\w'.ownsRow base 5 1 v' (l++m).length (bY (l++m))/\w.grownBy w' v.ownBlock:=by
 obtain⟨i,hi,hz,hs,hby⟩:=Qhp
 obtain⟨v',w',h1,h2,h3,_⟩:=run_append_own (P:=Tryz.prog) w base 106 106 5 i (.int .u8 0) 1 1 Tryz.underlying106 hi hz hs hby rfl (by decide) v l.length (bY l) hown ⟨b,0,none⟩ m.length c (bY m)
  (by rw[bZ];omega) (λj u hu=>by
   rw[Addr.add_lit,Nat.zero_add]
   simp[World.cell?,hb,hu])
  (Qan m) (by unfold maxLen;omega) (by omega) hbase
 rw[<-Qax,<-zE] at h2;exact⟨v',w',h1,h2,h3⟩
theorem Qkz {w:World}{base:Nat}{v:Value}{l:List UInt8}(h:w.ownsRow base 5 1 v l.length (bY l))(hn:0<l.length):
  ∃g cap,v=.slice (some ⟨g,0,none⟩) l.length cap/\base<=g/\g<w.heap.size/\l.length<=cap/\∀j (hj:j<l.length),w.cell? ⟨g,0+j,none⟩=some (.int .u8 ((l[j]).toNat:Int)):=by
 have hlt:=h.lt;have h0:=h
 rcases h.2 with⟨_,h1⟩|⟨g,cap,cur,rfl,hb,_,hc,_⟩
 ·omega
 ·refine⟨g,cap,rfl,hb,(hlt g rfl).2,hc,λj hj=>?_⟩
  have:=h0.cells (g:=g) rfl j _ (Qbq l j hj)
  rwa[Addr.add_lit] at this
theorem Qoj (k:List UInt8)(n:Int)(h:n<1\/decide ((65536:Int)<n)=true)(w:World):Calls Tryz.prog 113 #[.agg (bY k).toArray,.int .i64 n] w λe w'=>e=.returned (.string ⟨#[]⟩)/\Kept w.heap.size w.heap.size w w':=by
 generalize (bY k).toArray=kc
 go_enter Tryz.func113,Tryz.ntmps113
 by_cases h1:n<1
 ·have hd:decide (n<1)=true:=decide_eq_true h1
  go_wp2;go_ret;exact⟨rfl,zI.alloc (zB _) _⟩
 ·have hd:decide (n<1)=false:=decide_eq_false h1
  have hd2:=h.resolve_left h1;clear h;go_wp2;go_ret;exact⟨rfl,zI.alloc (zB _) _⟩
theorem Qmr (k:List UInt8)(hk:Hid (k.length=32))(n:Nat)(h1:Hid (1<=n))(h2:Hid (n<=65536))(w:World):Calls Tryz.prog 113 #[.agg (bY k).toArray,.int .i64 (n:Int)] w λe w'=>e=.returned (.string (str (Mc.stream k n)))/\Kept w.heap.size w.heap.size w w':=by
 generalize hkc:(bY k).toArray=kc;have Hkc:=hid hkc;clear hkc;have hd1:decide ((n:Int)<1)=false:=decide_eq_false (by have:=h1.out;omega)
 have hd2:decide ((65536:Int)<(n:Int))=false:=decide_eq_false (by have:=h2.out;omega)
 go_enter Tryz.func113,Tryz.ntmps113
 go_upto_region 3 with fail
 have hA:(w.alloc (.cells kc 23)).heap[w.heap.size]?=some (.cells kc 23 (0,0)):=Qaa _ _
 have k1:Kept w.heap.size w.heap.size w (w.alloc (.cells kc 23)):=zI.alloc (zB _) _
 have s1:(w.alloc (.cells kc 23)).heap.size=w.heap.size+1:=by simp
 generalize w.alloc (.cells kc 23)=w1 at hA k1 s1 |-
 obtain⟨wa,hwa⟩:∃wa,wa=w.heap.size:=⟨_,rfl⟩;rw[<-hwa] at hA k1 s1 |-;have hcv:=Qfd hk.out (by rw[Hkc.out];exact hA)
 have hp:=Qm7 (str k) (hid (by rw[Qai,hk.out];decide)) w1
 have HFL:Hid ((Mc.filled k).length=64):=hid (Mc.filled_length _);rw[Qgd] at hp;generalize hF:Mc.filled k=F at hp HFL;have hpl:(bY (padOf F)).toArray.size=128:=by rw[List.size_toArray,bZ,Qc1 F HFL.out]
 have hpa:=Qae (padOf F);generalize hpp:bY (padOf F)=pl at hp hpl hpa;have HPP:=hid hpp;clear hpp;have HWA:=hid hwa;have HF:=hid hF;have HP:=hid hp;have HCV:=hid hcv;have HK1:=hid k1;have HS1:=hid s1;have HPL:=hid hpl;have HPA:=hid hpa;clear hwa hA k1 s1 hcv hp hF hpl hpa
 go_wp2_with fail
 rw[HCV.out]
 go_wp2_with fail
 refine HP.out.mono ?_;rintro e w2 ⟨rfl,k2⟩
 go_wp2_with fail
 rw[Qly];have hst:=Qce (P:=Tryz.prog) w2 212 padNil pl.toArray (by rw[HPL.out];rfl) HPA.out
 have Hst:=hid hst;clear hst
 go_wp2_with fail
 rw[Hst.out];have hB:(w2.alloc (.cells pl.toArray 212)).heap[w2.heap.size]?=some (.cells pl.toArray 212 (0,0)):=Qaa _ _
 have s3:(w2.alloc (.cells pl.toArray 212)).heap.size=w2.heap.size+1:=by simp
 have k3:Kept w.heap.size w.heap.size w (w2.alloc (.cells pl.toArray 212)):=by
  have e1:=HWA.out;have e2:=HS1.out;have e3:=k2.size;rw[<-e1];exact(HK1.out.trans (k2.mono (by omega) (λk hk _=>by omega))).alloc (by omega) _
 generalize w2.alloc (.cells pl.toArray 212)=w3 at hB s3 k3 |-
 obtain⟨wp,hwp⟩:∃wp,wp=w2.heap.size:=⟨_,rfl⟩;rw[<-hwp] at hB s3 |-;obtain⟨w4,hm,ho,hg⟩:=Qsc w3 (n+32) (by have:=h2.out;omega)
 have k4:Kept w3.heap.size w3.heap.size w3 w4:=zI.grown hg (zB _) (λk h=>by cases h)
 have Hm:=hid hm;have HB:=hid hB;have HS3:=hid s3;have HK3:=hid k3;have HK4:=hid k4;have HO:=hid ho;clear hm hB s3 k3 k4 ho hg Hst k2 hwp
 go_wp2_with fail
 rw[show wrap64 ((n:Int)+32)=((n+32:Nat):Int) by have:=h2.out;unfold wrap64;omega,Hm.out]
 go_wp2_with fail
 go_loopw [6,7,8] (λs6 s7 s8 w9=>∃q:Nat,∃g cap:Nat,32*q<n+32/\s7=.int .i64 (q:Int)/\s6=.slice (some ⟨g,0,none⟩) (32*q) cap/\w3.heap.size<=g/\Hid (w9.ownsRow w3.heap.size 5 1 (.slice (some ⟨g,0,none⟩) (32*q) cap) (Mc.row k q).length (bY (Mc.row k q)))/\Hid (Kept w3.heap.size w3.heap.size w3 w9)) (λ_ s7 _ _=>70000-(RowKit.intOf s7).toNat)
 case atStart=>exact⟨0,w3.heap.size,n+32,by omega,rfl,rfl,zB _,HO,HK4⟩
 case round=>
  obtain⟨q,g,cap,hq,rfl,rfl,hg,hO,hK⟩:=hrel;have hrl:=Mc.row_length k q
  by_cases hlt:32*q<n
  ·have hd:decide (32*(q:Int)<(n:Int))=true:=decide_eq_true (by omega)
   have h65:=h2.out;have hB9:=(hK.out.block wp (by have:=HS3.out;omega) (by have:=HS3.out;omega)).trans HB.out
   have hN:wp<wr.heap.size:=by have:=HS3.out;have:=hK.out.size;omega
   have hrng:∀w',Kept wr.heap.size wr.heap.size wr w'->w'.rangeAt wp 0 pl:=λw' kk=>by
    have h:=World.rangeAt_of_block ((kk.block wp hN (by omega)).trans hB9) 0 128
    rw[show(pl.toArray.extract 0 (0+128)).toList=pl by
     have e:pl.length=128:=by rw[<-HPP.out,bZ,Qc1 F HFL.out]
     rw[Array.toList_extract,List.extract_eq_take_drop,List.drop_zero]
     exact List.take_of_length_le (by show pl.length<=_;omega)] at h
    exact h
   have hcode:∀(W:World) (B:Nat),B<W.heap.size->W.cell? ⟨B,0,none⟩=some (.string (str (Mc.four q)))->Calls Tryz.prog 140 #[.agg pl.toArray,.slice (some ⟨B,0,none⟩) 1 1] W λe w'=>e=.returned (.agg (bY (Mc.code k (Mc.four q))).toArray)/\Kept W.heap.size W.heap.size W w':=λW B hBW hcW=>by
    have hj:joined [str (Mc.four q)] [str (Mc.four q)].length=Mc.four q:=by simp[joined]
    have:=Qim F HFL [str (Mc.four q)] (some ⟨B,0,none⟩) 1 B 0 W (hid (by show 1<_;decide)) (hid (by rw[hj,Mc.four_length];decide)) (hid λh=>by cases h) (λj hj=>by
     obtain rfl:j=0:=by simp at hj;omega
     exact⟨rfl,hBW,hcW⟩)
    rw[hj,HPP.out] at this;rw[Mc.code,HF.out];exact this
   have hfour:=λw=>Qk5 q w
   have hcs:(bY (Mc.code k (Mc.four q))).toArray.size=32:=by rw[List.size_toArray,bZ,Mc.code_length]
   have hall:=Qae (Mc.code k (Mc.four q));have HRNG:=hid hrng;have HCODE:=hid hcode;have H4:=hid hfour;have Hcs:=hid hcs;have Hall:=hid hall;have Hrl:=hid hrl;clear hrng hcode hfour hcs hall hB9 hrl
   go_upto_region 8 with fail
   go_cut [8] (λs8 wx=>∃b:Nat,s8=.pointer (some ⟨b,0,none⟩)/\wr.heap.size<=b/\Hid (wx.heap[b]?=some (.cells (bY (Mc.code k (Mc.four q))).toArray 23 (0,0)))/\Hid (Kept wr.heap.size wr.heap.size wr wx))
   case first=>
    have hpi:(Tryz.prog.info? 212).map (·.size)=some pl.length:=by rw[padInfo,<-HPP.out,bZ,Qc1 F HFL.out]
    have KD:Kept wr.heap.size wr.heap.size wr wr.drew:=zI.drew;generalize hcu:(bY (Mc.code k (Mc.four q))).toArray=cu at HCODE Hcs Hall;have Hcu:=hid hcu;clear hcu;generalize str (Mc.four q)=s4 at HCODE H4;refine wp_region_noPanic ?_;refine wp_region_held_drew (S:=λw'=>w'.rangeAt wp 0 pl) (by kernel_rfl) (HRNG.out _ KD) (λhH=>?_)
    refine wpAnyH_take (i:=1) (v:=.int .i64 (q:Int)) rfl (by kernel_rfl) (by kernel_rfl) (by kernel_rfl) (λ_ _ _ h=>h) (.inl ⟨by rfl,λw9 _=>by go_simp⟩) hH ?_
    refine wpAnyH_take (i:=0) (v:=.agg pl.toArray) rfl (by kernel_rfl) (by kernel_rfl) (by kernel_rfl) (λ_ _ _ h=>h) (yieldsIf_load_mid (by rfl) 212 _ rfl wp 0 rfl pl _ (λ_ h=>h) Tryz.underlying212 rfl hpi) hH ?_
    simp only[Act.put,List.setIfInBounds_toArray];refine wpAnyH_ready (rs:=[2,5]) (by kernel_rfl) (by simp) ?_
    refine AllReadyH.cons rfl (λK hK=>?_) ?_
    ·rw[zG (by rfl)]
     go_simp
     go_wp2_with (go_at_call 130;refine(H4.out _).mono ?_;rintro e w7 ⟨rfl,k7⟩)
     have K7:Kept wr.heap.size wr.heap.size wr w7:=KD.trans k7;refine hK.out _ _ (HRNG.out _ K7) (λhH=>?_)
     clear hK K;refine wpAnyH_ready (rs:=[3,5]) (by kernel_rfl) (by simp) ?_
     refine AllReadyH.cons rfl (λK hK=>?_) ?_
     ·rw[zG (by rfl)]
      go_simp;have KB:=K7.alloc K7.size (.cells #[.string s4] 9)
      refine hK.out _ _ (HRNG.out _ KB) (λhH=>?_)
      clear hK K;refine wpAnyH_ready (rs:=[4,5]) (by kernel_rfl) (by simp) ?_
      refine AllReadyH.cons rfl (λK hK=>?_) ?_
      ·rw[zG (by rfl)]
       go_simp
       go_wp2_with (go_at_call 140;refine(HCODE.out (w7.alloc (.cells #[.string s4] 9)) w7.heap.size (by simp) (World.cell?_alloc_new w7 _ _ 0)).mono ?_;rintro e w8 ⟨rfl,k8⟩)
       have K8:Kept wr.heap.size wr.heap.size wr w8:=KB.trans (k8.mono KB.size (λk hk _=>zD (zC hk KB.size)))
       refine hK.out _ _ (HRNG.out _ K8) (λhH=>?_)
       clear hK K;refine wpAnyH_ready (rs:=[5]) (by kernel_rfl) (by simp) ?_
       refine AllReadyH.cons rfl (λK hK=>?_) ?_
       ·rw[zG (by rfl)]
        go_simp;rw[Qao];have K9:=K8.alloc K8.size (.cells zY 23)
        refine hK.out _ _ (HRNG.out _ K9) (λhH=>?_)
        clear hK K;have hst:=Qce (P:=Tryz.prog) w8 23 zY cu (by rw[Hcs.out];rfl) Hall.out
        refine wpAnyH_ready (rs:=[6]) (by kernel_rfl) (by simp) ?_
        refine AllReadyH.cons rfl (λK hK=>?_) ?_
        ·rw[zG (by rfl)]
         have hcs32:=Hcs.out;go_simp;have K10:=K8.alloc K8.size (.cells cu 23)
         refine hK.out _ _ (HRNG.out _ K10) (λhH=>?_)
         clear hK K;refine wpAnyH_done (by kernel_rfl) ?_ _
         refine NoPanic.normal ?_
         go_wp2_with fail
         go_meet
         exact⟨w8.heap.size,rfl,K8.size,hid (by rw[Hcu.out];exact(Qaa w8 (.cells cu 23))),hid K10⟩
        ·exact AllReadyH.nil
       ·exact AllReadyH.nil
      ·refine AllReadyH.cons rfl (λK hK=>?_) AllReadyH.nil
       rw[zG (by rfl)]
       go_simp;rw[Qao];have KZ:=KB.alloc KB.size (.cells zY 23)
       refine hK.out _ _ (HRNG.out _ KZ) (λhH=>?_)
       clear hK K;refine wpAnyH_ready (rs:=[4]) (by kernel_rfl) (by simp) ?_
       refine AllReadyH.cons rfl (λK hK=>?_) ?_
       ·rw[zG (by rfl)]
        go_simp;have hcell:((w7.alloc (.cells #[.string s4] 9)).alloc (.cells zY 23)).cell? ⟨w7.heap.size,0,none⟩=some (.string s4):=(Kept.cell ((Kept.refl (w7.alloc (.cells #[.string s4] 9)).heap.size (w7.alloc (.cells #[.string s4] 9)).heap.size _).alloc (zB _) (.cells zY 23)) (p:=⟨w7.heap.size,0,none⟩) (by simp) (by simp)).trans (World.cell?_alloc_new w7 _ _ 0)
        go_wp2_with (go_at_call 140;refine(HCODE.out ((w7.alloc (.cells #[.string s4] 9)).alloc (.cells zY 23)) (w7.heap.size) (by simp;omega) hcell).mono ?_;rintro e w8 ⟨rfl,k8⟩)
        have K8:Kept wr.heap.size wr.heap.size wr w8:=KZ.trans (k8.mono KZ.size (λk hk _=>zD (zC hk KZ.size)))
        have hz:w8.heap[w7.heap.size+1]?=some (.cells zY 23 (0,0)):=(k8.block (w7.heap.size+1) (by simp) (by simp)).trans (Qaq w7 _ _)
        refine hK.out _ _ (HRNG.out _ K8) (λhH=>?_)
        clear hK K;refine wpAnyH_ready (rs:=[6]) (by kernel_rfl) (by simp) ?_
        refine AllReadyH.cons rfl (λK hK=>?_) ?_
        ·rw[zG (by rfl)]
         have hcs32:=Hcs.out;have hst:=Qdb (P:=Tryz.prog) w8 (w7.heap.size+1) 23 zY cu hz (by rw[Hcs.out];rfl) Hall.out
         go_simp;have K10:Kept wr.heap.size wr.heap.size wr (w8.setRow (w7.heap.size+1) cu):=K8.trans ⟨rfl,rfl,rfl,by simp[World.setRow],λk hk _=>setRow_other w8 (w7.heap.size+1) k cu (zD (zC hk (Nat.le_succ_of_le K7.size)))⟩
         refine hK.out _ _ (HRNG.out _ K10) (λhH=>?_)
         clear hK K;refine wpAnyH_done (by kernel_rfl) ?_ _
         refine NoPanic.normal ?_
         go_wp2_with fail
         go_meet
         exact⟨w7.heap.size+1,rfl,(Nat.le_succ_of_le K7.size),hid (by rw[Hcu.out];exact(setRow_heap w8 (w7.heap.size+1) zY cu _ _ hz)),hid K10⟩
        ·exact AllReadyH.nil
       ·exact AllReadyH.nil
     ·refine AllReadyH.cons rfl (λK hK=>?_) AllReadyH.nil
      rw[zG (by rfl)]
      go_simp;rw[Qao];have KZ:=K7.alloc K7.size (.cells zY 23)
      refine hK.out _ _ (HRNG.out _ KZ) (λhH=>?_)
      clear hK K;refine wpAnyH_ready (rs:=[3]) (by kernel_rfl) (by simp) ?_
      refine AllReadyH.cons rfl (λK hK=>?_) ?_
      ·rw[zG (by rfl)]
       go_simp;have KB:=KZ.alloc KZ.size (.cells #[.string s4] 9)
       refine hK.out _ _ (HRNG.out _ KB) (λhH=>?_)
       clear hK K;refine wpAnyH_ready (rs:=[4]) (by kernel_rfl) (by simp) ?_
       refine AllReadyH.cons rfl (λK hK=>?_) ?_
       ·rw[zG (by rfl)]
        go_simp;have hcell:((w7.alloc (.cells zY 23)).alloc (.cells #[.string s4] 9)).cell? ⟨w7.heap.size+1,0,none⟩=some (.string s4):=by have:=World.cell?_alloc_new (w7.alloc (.cells zY 23)) #[.string s4] 9 0;rwa[show(w7.alloc (.cells zY 23)).heap.size=w7.heap.size+1 by simp] at this
        go_wp2_with (go_at_call 140;refine(HCODE.out ((w7.alloc (.cells zY 23)).alloc (.cells #[.string s4] 9)) (w7.heap.size+1) (by simp) hcell).mono ?_;rintro e w8 ⟨rfl,k8⟩)
        have K8:Kept wr.heap.size wr.heap.size wr w8:=KB.trans (k8.mono KB.size (λk hk _=>zD (zC hk KB.size)))
        have hz:w8.heap[w7.heap.size]?=some (.cells zY 23 (0,0)):=(k8.block w7.heap.size (by simp;omega) (by simp;omega)).trans (heap_alloc2_old w7 _ _)
        refine hK.out _ _ (HRNG.out _ K8) (λhH=>?_)
        clear hK K;refine wpAnyH_ready (rs:=[6]) (by kernel_rfl) (by simp) ?_
        refine AllReadyH.cons rfl (λK hK=>?_) ?_
        ·rw[zG (by rfl)]
         have hcs32:=Hcs.out;have hst:=Qdb (P:=Tryz.prog) w8 (w7.heap.size) 23 zY cu hz (by rw[Hcs.out];rfl) Hall.out
         go_simp;have K10:Kept wr.heap.size wr.heap.size wr (w8.setRow (w7.heap.size) cu):=K8.trans ⟨rfl,rfl,rfl,by simp[World.setRow],λk hk _=>setRow_other w8 (w7.heap.size) k cu (zD (zC hk K7.size))⟩
         refine hK.out _ _ (HRNG.out _ K10) (λhH=>?_)
         clear hK K;refine wpAnyH_done (by kernel_rfl) ?_ _
         refine NoPanic.normal ?_
         go_wp2_with fail
         go_meet
         exact⟨w7.heap.size,rfl,K7.size,hid (by rw[Hcu.out];exact(setRow_heap w8 (w7.heap.size) zY cu _ _ hz)),hid K10⟩
        ·exact AllReadyH.nil
       ·exact AllReadyH.nil
      ·exact AllReadyH.nil
    ·refine AllReadyH.cons rfl (λK hK=>?_) AllReadyH.nil
     rw[zG (by rfl)]
     go_simp;rw[Qao];have KZ:Kept wr.heap.size wr.heap.size wr (wr.alloc (.cells zY 23)).drew:=(zI.alloc (zB _) _).drew
     refine hK.out _ _ (HRNG.out _ KZ) (λhH=>?_)
     clear hK K;refine wpAnyH_ready (rs:=[2]) (by kernel_rfl) (by simp) ?_
     refine AllReadyH.cons rfl (λK hK=>?_) ?_
     ·rw[zG (by rfl)]
      go_simp
      go_wp2_with (go_at_call 130;refine(H4.out _).mono ?_;rintro e w7 ⟨rfl,k7⟩)
      have K7:Kept wr.heap.size wr.heap.size wr w7:=KZ.trans (k7.mono KZ.size (λk hk _=>zD (zC hk KZ.size)))
      have hs1:(wr.alloc (.cells zY 23)).drew.heap.size=wr.heap.size+1:=by show(wr.alloc (.cells zY 23)).heap.size=_;simp
      have hz7:w7.heap[wr.heap.size]?=some (.cells zY 23 (0,0)):=(k7.block wr.heap.size (by rw[hs1];exact Nat.lt_succ_self _) (by rw[hs1];exact zD (Nat.lt_succ_self _))).trans (Qaa wr _)
      have hw7:wr.heap.size<w7.heap.size:=by have:=k7.size;rw[hs1] at this;exact this
      refine hK.out _ _ (HRNG.out _ K7) (λhH=>?_)
      clear hK K;refine wpAnyH_ready (rs:=[3]) (by kernel_rfl) (by simp) ?_
      refine AllReadyH.cons rfl (λK hK=>?_) ?_
      ·rw[zG (by rfl)]
       go_simp;have KB:=K7.alloc K7.size (.cells #[.string s4] 9)
       refine hK.out _ _ (HRNG.out _ KB) (λhH=>?_)
       clear hK K;refine wpAnyH_ready (rs:=[4]) (by kernel_rfl) (by simp) ?_
       refine AllReadyH.cons rfl (λK hK=>?_) ?_
       ·rw[zG (by rfl)]
        go_simp;have hcell:(w7.alloc (.cells #[.string s4] 9)).cell? ⟨w7.heap.size,0,none⟩=some (.string s4):=World.cell?_alloc_new w7 _ _ 0
        go_wp2_with (go_at_call 140;refine(HCODE.out (w7.alloc (.cells #[.string s4] 9)) (w7.heap.size) (by simp) hcell).mono ?_;rintro e w8 ⟨rfl,k8⟩)
        have K8:Kept wr.heap.size wr.heap.size wr w8:=KB.trans (k8.mono KB.size (λk hk _=>zD (zC hk KB.size)))
        have hz:w8.heap[wr.heap.size]?=some (.cells zY 23 (0,0)):=(k8.block wr.heap.size (by simp;omega) (by simp;omega)).trans ((Below.heap_alloc _ _ _ hw7).trans hz7)
        refine hK.out _ _ (HRNG.out _ K8) (λhH=>?_)
        clear hK K;refine wpAnyH_ready (rs:=[6]) (by kernel_rfl) (by simp) ?_
        refine AllReadyH.cons rfl (λK hK=>?_) ?_
        ·rw[zG (by rfl)]
         have hcs32:=Hcs.out;have hst:=Qdb (P:=Tryz.prog) w8 (wr.heap.size) 23 zY cu hz (by rw[Hcs.out];rfl) Hall.out
         go_simp;have K10:Kept wr.heap.size wr.heap.size wr (w8.setRow (wr.heap.size) cu):=K8.trans ⟨rfl,rfl,rfl,by simp[World.setRow],λk hk _=>setRow_other w8 (wr.heap.size) k cu (zD (zC hk (zB _)))⟩
         refine hK.out _ _ (HRNG.out _ K10) (λhH=>?_)
         clear hK K;refine wpAnyH_done (by kernel_rfl) ?_ _
         refine NoPanic.normal ?_
         go_wp2_with fail
         go_meet
         exact⟨wr.heap.size,rfl,(zB _),hid (by rw[Hcu.out];exact(setRow_heap w8 (wr.heap.size) zY cu _ _ hz)),hid K10⟩
        ·exact AllReadyH.nil
       ·exact AllReadyH.nil
      ·exact AllReadyH.nil
     ·exact AllReadyH.nil
   case rest=>
    obtain⟨b,rfl,hb,HBW,HKW⟩:=hcut;have hgw:wr.grownBy wc none:=⟨HKW.out.os,HKW.out.tape,HKW.out.output,HKW.out.size,λk hk _=>HKW.out.block k hk (by omega)⟩
    have hO2:=hO.out.kept hgw (.inr (by simp[Value.ownBlock]))
    have hKc:Kept w3.heap.size w3.heap.size w3 wc:=by
     have:=hK.out.size;exact hK.out.trans (HKW.out.mono (by omega) (λk hk _=>by omega))
    obtain⟨v',w9,hr9,ho9,hg9⟩:=Qn8 wc w3.heap.size (.slice (some ⟨g,0,none⟩) (32*q) cap) (Mc.row k q) hO2 hKc.size b 32 (Mc.code k (Mc.four q)) HBW.out (by rw[Hrl.out,Mc.code_length];omega)
    have hK9:Kept w3.heap.size w3.heap.size w3 w9:=hKc.grown hg9 hKc.size (λk h=>by simp[Value.ownBlock] at h;omega)
    rw[show Mc.row k q++Mc.code k (Mc.four q)=Mc.row k (q+1) from rfl] at ho9;have hl9:=Mc.row_length k (q+1);obtain⟨g9,cap9,hv9,hb9,_,_,_⟩:=Qkz ho9 (by rw[hl9];omega)
    rw[hl9] at hv9;subst hv9;rw[Mc.code_length] at hr9;have Hr9:=hid hr9;have Ho9:=hid ho9;have HK9:=hid hK9;clear hr9 ho9 hK9 hg9 hO2 hgw hKc hl9
    go_wp2_with (with_reducible refine Qal rfl _ _ 106 106 106 rfl rfl (.slice (some ⟨g,0,none⟩) (32*q) cap) (.slice (some ⟨b,0,none⟩) 32 32) rfl rfl Hr9.out ?_)
    exact⟨⟨q+1,g9,cap9,by omega,by rw[Int.natCast_add];rfl,rfl,hb9,Ho9,HK9⟩,by simp only[RowKit.intOf];omega⟩
  ·have hd:decide (32*(q:Int)<(n:Int))=false:=decide_eq_false (by omega)
   have h65:=h1.out;obtain⟨g',cap',he,_,_,hcap,hcell⟩:=Qkz hO.out (by rw[hrl];omega)
   rw[hrl] at he
   cases he
   rw[hrl] at hcap;have hcn:(n:Int)<=(cap:Int):=by omega
   have hc0:cap≠0:=by omega
   have hst:=Mc.row_take k n q (by omega)
   have hcv:=Qpx wr g 0 cap (Mc.stream k n) (λj hj=>by
    rw[Mc.stream_length] at hj;rw[hcell j (by rw[hrl];omega)]
    congr 3
    have h3:(Mc.stream k n)[j]?=(Mc.row k q)[j]?:=by rw[<-hst,List.getElem?_take,zG hj]
    rw[List.getElem?_eq_getElem (by rw[Mc.stream_length];omega),List.getElem?_eq_getElem (by rw[hrl];omega)] at h3
    rw[Option.some.inj h3])
   rw[Mc.stream_length] at hcv;have Hcv:=hid hcv;clear hcv hst hcell hrl
   go_wp2_with fail
   rw[Hcv.out];go_wp2;go_ret;refine⟨rfl,?_⟩;have e3:=HK3.out.size;exact HK3.out.trans (hK.out.mono (by omega) (λk hk _=>by omega))
end Go.Proofs.YtnlbgggnpoeleaaGreatDoor
