/-
 EraText; EraMem; EraBuild; EraNewRow: several texts in one.
-/
import Derived.Test.YtnlbgggnpoeleaaGreatDoorKA
import Derived.Test.YtnlbgggnpoeleaaGreatDoorShaHexF
import Derived.Test.YtnlbgggnpoeleaaGreatDoorGX
set_option maxRecDepth 100000
set_option maxHeartbeats 6400000
namespace Go.Proofs.YtnlbgggnpoeleaaGreatDoor
open Go.RowKit Go.Lib
open List renaming setIfInBounds_toArray -> sA, set_cons_zero -> sB, set_cons_succ -> sC
open BigFrame renaming wpList_want -> wQ
theorem Qsp (x:UInt8)(l:List UInt8):Sm.hex (x::l)=Sm.sign (x.toNat/16)::Sm.sign (x.toNat%16)::Sm.hex l:=rfl
theorem Qjl (l:List UInt8):(Sm.hex l).length=2*l.length:=by
 induction l with
 | nil=>rfl
 | cons x l ih=>rw[Qsp,List.length_cons,List.length_cons,List.length_cons,ih];omega
theorem Qk1 (s:ByteArray)(l:List UInt8)(w:World):Calls Tryz.prog 47 #[.pointer none,.string s,.agg (bY l).toArray] w λe w'=>e=.returned (.tuple #[])/\Kept w.heap.size w.heap.size w w':=by
 obtain⟨bl,hbl⟩:∃bl,bl=bY l:=⟨_,rfl⟩;rw[<-hbl];have k1:Kept w.heap.size w.heap.size w (w.alloc (.cells bl.toArray 23)):=zI.alloc (zB _) _
 have HK1:=hid k1;clear k1 hbl
 go_enter Tryz.func47,Tryz.ntmps47
 go_wp2_with fail
 try simp only[Exit.inBlock,Exit.then]
 refine bodyPost_ret (results_none rfl _ _ _) rfl ?_;exact⟨rfl,HK1.out⟩
def tcells (ts:List Int):List Value:=ts.map (Value.int .i64)
theorem Qgb (ts:List Int):(tcells ts).length=ts.length:=by simp[tcells]
theorem Qrd (ts:List Int):∀v∈tcells ts,v.oneCell'=true:=λv hv=>by
 obtain⟨n,_,rfl⟩:=List.mem_map.1 hv
 rfl
theorem Qmq {ts:List Int}{i:Nat}(hi:i<ts.length):(tcells ts)[i]?=some (.int .i64 ts[i]):=by
 rw[tcells,List.getElem?_map,List.getElem?_eq_getElem hi];rfl
structure Fm where
 id:List UInt8
 par:List UInt8
 depth:Int
 said:List UInt8
 ts:List Int
def Fm.Ok (f:Fm):Prop:=f.id.length=32/\f.par.length=32/\f.said.length=32/\f.ts.length=64
def Fm.cells (f:Fm)(lv pv:Value):List Value:=bY f.id++(bY f.par++([.int .i64 f.depth,lv,pv]++(bY f.said++tcells f.ts)))
def Fm.z64:List Int:=List.replicate 64 0
def Fm.zero:Fm:=⟨Tt.z32,Tt.z32,0,Tt.z32,Fm.z64⟩
theorem Fm.zero_ok:Fm.zero.Ok:=⟨rfl,rfl,rfl,rfl⟩
theorem Fm.cells_length {f:Fm}(h:f.Ok)(lv pv:Value):(f.cells lv pv).length=163:=by
 simp[Fm.cells,bZ,Qgb,h.1,h.2.1,h.2.2.1,h.2.2.2]
theorem Fm.size {f:Fm}(h:f.Ok)(lv pv:Value):(f.cells lv pv).toArray.size=163:=by rw[List.size_toArray,Fm.cells_length h]
theorem Fm.cells_one (f:Fm)(la pa:Option Addr)(ln lc pn pc:Nat):∀v∈f.cells (.slice la ln lc) (.slice pa pn pc),v.oneCell'=true:=λv hv=>by
 rcases List.mem_append.1 hv with hv|hv
 ·exact Qan _ v hv
 rcases List.mem_append.1 hv with hv|hv
 ·exact Qan _ v hv
 rcases List.mem_append.1 hv with hv|hv
 ·simp at hv
  rcases hv with rfl|rfl|rfl <;> rfl
 rcases List.mem_append.1 hv with hv|hv
 ·exact Qan _ v hv
 ·exact Qrd _ v hv
theorem Fm.all (f:Fm)(la pa:Option Addr)(ln lc pn pc:Nat):(f.cells (.slice la ln lc) (.slice pa pn pc)).toArray.all (·.oneCell')=true:=all_oneCell_toArray (f.cells_one la pa ln lc pn pc)
theorem Qaz {w:World}{b o:Nat}{cs:List Value}(h:w.rangeAt b o cs)(A B C:List Value)(hcs:cs=A++(B++C))(k:Nat)(hk:k=o+A.length):w.rangeAt b k B:=λj v hj=>by
 have h2:j<B.length:=by
  rcases Nat.lt_or_ge j B.length with h|h
  ·exact h
  ·rw[List.getElem?_eq_none h] at hj;cases hj
 have:=h (A.length+j) v (by rw[hcs,List.getElem?_append_right (Nat.le_add_right _ _),Nat.add_sub_cancel_left,List.getElem?_append_left h2];exact hj)
 rwa[<-Nat.add_assoc,<-hk] at this
theorem Qam {w:World}{b:Nat}{cs:List Value}{t:TypeId}{fz:Nat × Nat}(h:w.heap[b]?=some (.cells cs.toArray t fz)):w.rangeAt b 0 cs:=λj v hv=>by
 simp only[World.cell?,h,Nat.zero_add]
 simpa using hv
theorem Qeg {w:World}{b:Nat}{cs:List Value}{t:TypeId}(h:w.heap[b]?=some (.cells cs.toArray t (0,0))){o n:Nat}(hn:o+n<=cs.length):w.there b o n:=λj hj=>by
 constructor
 ·simp[World.cell?,h,show o+j<cs.length by omega]
 ·simp[World.frozen?,h]
section
variable {w:World} {b o:Nat} {f:Fm} {lv pv:Value}
theorem Fm.at_id (h:w.rangeAt b o (f.cells lv pv)):w.rangeAt b o (bY f.id):=Qaz h [] _ _ rfl _ (by simp)
theorem Fm.at_mid (h:w.rangeAt b o (f.cells lv pv))(k:f.Ok):w.rangeAt b (o+64) [.int .i64 f.depth,lv,pv]:=Qaz h (bY f.id++bY f.par) _ (bY f.said++tcells f.ts) (by simp[Fm.cells]) _ (by rw[zE,bZ,bZ,k.1,k.2.1])
theorem Fm.at_tree (h:w.rangeAt b o (f.cells lv pv))(k:f.Ok):w.rangeAt b (o+65) [lv,pv]:=Qaz (Fm.at_mid h k) [.int .i64 f.depth] [lv,pv] [] rfl _ rfl
theorem Fm.at_ts (h:w.rangeAt b o (f.cells lv pv))(k:f.Ok):w.rangeAt b (o+99) (tcells f.ts):=Qaz h (bY f.id++(bY f.par++([.int .i64 f.depth,lv,pv]++bY f.said))) _ [] (by simp[Fm.cells]) _ (by simp[bZ,k.1,k.2.1,k.2.2.1])
theorem Fm.at_depth (h:w.rangeAt b o (f.cells lv pv))(k:f.Ok):w.cell? ⟨b,o+64,none⟩=some (.int .i64 f.depth):=Fm.at_mid h k 0 _ rfl
theorem Fm.at_lv (h:w.rangeAt b o (f.cells lv pv))(k:f.Ok):w.cell? ⟨b,o+65,none⟩=some lv:=Fm.at_tree h k 0 _ rfl
end
theorem Fm.set_tree {f:Fm}(k:f.Ok)(lv pv lv' pv':Value):((f.cells lv pv).set 65 lv').set 66 pv'=f.cells lv' pv':=by
 have h1:(bY f.id).length=32:=by rw[bZ,k.1]
 have h2:(bY f.par).length=32:=by rw[bZ,k.2.1]
 unfold Fm.cells;rw[List.set_append_right _ _ (by omega),List.set_append_right _ _ (by omega),h1,List.set_append_right _ _ (by omega),List.set_append_right _ _ (by omega),h2]
 rfl
def ecells (F:List Value)(me:Int)(kv ip:Value)(forks:Int)(av:Value)(sent:Int)(ex:List UInt8):List Value:=F++([.int .i64 me,kv,ip,.int .i64 forks,av,.int .i64 sent]++bY ex)
section
variable {w:World} {b o:Nat} {F:List Value} {me forks sent:Int} {kv ip av:Value} {ex:List UInt8}
theorem Qu4 (h:w.rangeAt b o (ecells F me kv ip forks av sent ex)):w.rangeAt b o F:=Qaz h [] _ _ rfl _ (by simp)
theorem Qxn (h:w.rangeAt b o (ecells F me kv ip forks av sent ex))(hF:F.length=163):w.rangeAt b (o+163) [.int .i64 me,kv,ip,.int .i64 forks,av,.int .i64 sent]:=Qaz h F _ _ rfl _ (by rw[hF])
end
theorem frameInfo {cs:Array Value}(h:cs.size=163):(Tryz.prog.info? 84).map (·.size)=some cs.size:=by rw[h];kernel_rfl
theorem Qog {cs:List Value}(h:cs.length=64):(Tryz.prog.info? 47).map (·.size)=some cs.length:=by rw[h];kernel_rfl
theorem Qne {w:World}{b o:Nat}{ts:List Int}(h:w.rangeAt b o (tcells ts))(h64:ts.length=64):(loadVar 47 ⟨b,o,none⟩).run Tryz.prog w=.ok (.agg (tcells ts).toArray) w:=
 run_loadVar_mid w b o _ _ _ h Tryz.underlying47 rfl (Qog (by rw[Qgb,h64]))
theorem Qrb (x y:Value):(Tryz.prog.info? 45).map (·.size)=some [x,y].length:=by kernel_rfl
theorem Qdm {w:World}{b o:Nat}{x y:Value}(h:w.rangeAt b o [x,y]):(loadVar 45 ⟨b,o,none⟩).run Tryz.prog w=.ok (.agg #[x,y]) w:=
 run_loadVar_mid w b o _ _ _ h Tryz.underlying45 rfl (Qrb x y)
theorem Qst {l:List UInt8}(h:l.length=32):(Tryz.prog.info? 23).map (·.size)=some (bY l).length:=by rw[bZ,h];kernel_rfl
theorem Qb3 {w:World}{b o:Nat}{l:List UInt8}(h:w.rangeAt b o (bY l))(h32:l.length=32):(loadVar 23 ⟨b,o,none⟩).run Tryz.prog w=.ok (.agg (bY l).toArray) w:=
 run_loadVar_mid w b o _ _ _ h Tryz.underlying23 rfl (Qst h32)
theorem Ql2 (ts:List Int)(i:Nat)(hi:i<ts.length)(h64:ts.length=64)(w:World):(Instr.index 47 (.agg (tcells ts).toArray) (.int .i64 (i:Int))).run Tryz.prog w=.ok (.int .i64 ts[i]) w:=
 Qc5 w 47 3 64 _ .i64 i _ (by kernel_rfl) (Tryz.sizeOf3 w) (Tryz.isAgg3 w) (by omega) (by rw[List.getElem?_toArray];exact Qmq hi)
theorem Qbv {p:List UInt8->Prop}(h:∀b0 b1 b2 b3 b4 b5 b6 b7 b8 b9 b10 b11 b12 b13 b14 b15 b16 b17 b18 b19 b20 b21 b22 b23 b24 b25 b26 b27 b28 b29 b30 b31:UInt8,p [b0,b1,b2,b3,b4,b5,b6,b7,b8,b9,b10,b11,b12,b13,b14,b15,b16,b17,b18,b19,b20,b21,b22,b23,b24,b25,b26,b27,b28,b29,b30,b31])(l:List UInt8)(hl:l.length=32):p l:=by
 match l,hl with
 | [b0,b1,b2,b3,b4,b5,b6,b7,b8,b9,b10,b11,b12,b13,b14,b15,b16,b17,b18,b19,b20,b21,b22,b23,b24,b25,b26,b27,b28,b29,b30,b31],_=>exact h b0 b1 b2 b3 b4 b5 b6 b7 b8 b9 b10 b11 b12 b13 b14 b15 b16 b17 b18 b19 b20 b21 b22 b23 b24 b25 b26 b27 b28 b29 b30 b31
theorem Qnf {p:List Int->Prop}(h:∀b0 b1 b2 b3 b4 b5 b6 b7 b8 b9 b10 b11 b12 b13 b14 b15 b16 b17 b18 b19 b20 b21 b22 b23 b24 b25 b26 b27 b28 b29 b30 b31 b32 b33 b34 b35 b36 b37 b38 b39 b40 b41 b42 b43 b44 b45 b46 b47 b48 b49 b50 b51 b52 b53 b54 b55 b56 b57 b58 b59 b60 b61 b62 b63:Int,p (b0::b1::b2::b3::b4::b5::b6::b7::b8::b9::b10::b11::b12::b13::b14::b15::b16::b17::b18::b19::b20::b21::b22::b23::b24::b25::b26::b27::b28::b29::b30::b31::b32::b33::b34::b35::b36::b37::b38::b39::b40::b41::b42::b43::b44::b45::b46::b47::b48::b49::b50::b51::b52::b53::b54::b55::b56::b57::b58::b59::b60::b61::b62::b63::[]))(l:List Int)(hl:l.length=64):p l:=by
 match l,hl with
 | b0::b1::b2::b3::b4::b5::b6::b7::b8::b9::b10::b11::b12::b13::b14::b15::b16::b17::b18::b19::b20::b21::b22::b23::b24::b25::b26::b27::b28::b29::b30::b31::b32::b33::b34::b35::b36::b37::b38::b39::b40::b41::b42::b43::b44::b45::b46::b47::b48::b49::b50::b51::b52::b53::b54::b55::b56::b57::b58::b59::b60::b61::b62::b63::[],_=>exact h b0 b1 b2 b3 b4 b5 b6 b7 b8 b9 b10 b11 b12 b13 b14 b15 b16 b17 b18 b19 b20 b21 b22 b23 b24 b25 b26 b27 b28 b29 b30 b31 b32 b33 b34 b35 b36 b37 b38 b39 b40 b41 b42 b43 b44 b45 b46 b47 b48 b49 b50 b51 b52 b53 b54 b55 b56 b57 b58 b59 b60 b61 b62 b63
theorem Qvc (f:Fm)(hf:f.Ok)(la pa ka aa:Option Addr)(ln lc pn pc kn kc an ac:Nat)(me:Int)(ip:Option Addr)(ex:List UInt8)(he:ex.length=32)(w:World):
  (Instr.build 97 #[(0,.agg (f.cells (.slice la ln lc) (.slice pa pn pc)).toArray),(1,.int .i64 me),(2,.slice ka kn kc),(3,.pointer ip),(5,.slice aa an ac),(7,.agg (bY ex).toArray)]).run Tryz.prog w=.ok (.agg (ecells (f.cells (.slice la ln lc) (.slice pa pn pc)) me (.slice ka kn kc) (.pointer ip) 0 (.slice aa an ac) 0 ex).toArray) w:=by
 obtain⟨id,par,d,said,ts⟩:=f;obtain⟨h1,h2,h3,h4⟩:=hf;simp only at h1 h2 h3 h4
 revert ex
 refine Qbv ?_;intro e0 e1 e2 e3 e4 e5 e6 e7 e8 e9 e10 e11 e12 e13 e14 e15 e16 e17 e18 e19 e20 e21 e22 e23 e24 e25 e26 e27 e28 e29 e30 e31
 revert id
 refine Qbv ?_;intro a0 a1 a2 a3 a4 a5 a6 a7 a8 a9 a10 a11 a12 a13 a14 a15 a16 a17 a18 a19 a20 a21 a22 a23 a24 a25 a26 a27 a28 a29 a30 a31
 revert par
 refine Qbv ?_;intro b0 b1 b2 b3 b4 b5 b6 b7 b8 b9 b10 b11 b12 b13 b14 b15 b16 b17 b18 b19 b20 b21 b22 b23 b24 b25 b26 b27 b28 b29 b30 b31
 revert said
 refine Qbv ?_;intro c0 c1 c2 c3 c4 c5 c6 c7 c8 c9 c10 c11 c12 c13 c14 c15 c16 c17 c18 c19 c20 c21 c22 c23 c24 c25 c26 c27 c28 c29 c30 c31
 revert ts
 refine Qnf ?_;intro t0 t1 t2 t3 t4 t5 t6 t7 t8 t9 t10 t11 t12 t13 t14 t15 t16 t17 t18 t19 t20 t21 t22 t23 t24 t25 t26 t27 t28 t29 t30 t31 t32 t33 t34 t35 t36 t37 t38 t39 t40 t41 t42 t43 t44 t45 t46 t47 t48 t49 t50 t51 t52 t53 t54 t55 t56 t57 t58 t59 t60 t61 t62 t63;kernel_rfl
theorem Qa4 {P:Program}{ops:Array Oper}{S:World->Prop}{op:Oper}{a:Act}(hw:Region.wanted op (yielded ops a.tmps)=true)(t:TypeId)(xs:Array (Nat × Operand))(ho:op.op=.build t xs)(vs:Array (Nat × Value))(hv:(xs.map λ(i,x)=>(i,a.eval x))=vs)(u:Value)(hr:∀w,(Instr.build t vs).run P w=.ok u w):YieldsIf P ops S op u a:=by
 subst hv
 exact .inl ⟨hw,λw _=>by
  unfold execOp
  simp only[ho,Sem.run_bind,hr,Result.andThen_ok,Sem.run_pure]⟩
theorem Qot (l:List UInt8)(hl:l.length=32)(bits:Nat)(h1:1<=bits)(h2:bits<=32)(w:World):Calls Tryz.prog 96 #[.agg (bY l).toArray,.int .i64 (bits:Int)] w λe w'=>∃rb sl,e=.returned (.tuple #[.pointer (some ⟨rb,0,none⟩),.int .i64 0])/\w.heap.size<=rb/\RowIs w' rb bits sl [⟨0,0,l⟩]/\Kept w.heap.size w.heap.size w w'/\∀k,sl.ownBlock=some k->w.heap.size<=k/\k<rb:=by
 have hin:Pp.In bits ⟨0,0,l⟩:=⟨Nat.zero_le _,Nat.one_pos,hl⟩;have hcl:(Pp.cells ⟨0,0,l⟩).length=34:=Pp.cells_length hin;have hbr:=λw=>Qtb w l hl
 have hki:=keyInfo hl;have hf:=λw=>Qwq (bits:Int) (by omega) (by omega) w
 obtain⟨i0,z0,hi0,hz0,hs0⟩:=Qt1;obtain⟨D,hD⟩:∃D,D=(Pp.cells ⟨0,0,l⟩).toArray:=⟨_,rfl⟩;have hDs:D.size=34:=by rw[hD,List.size_toArray,hcl]
 rw[<-hD] at hbr;generalize (bY l).toArray=C at hbr hki |-;have HF:=hid hf;have HBR:=hid hbr;have HKI:=hid hki;have HI0:=hid hi0;have HZ0:=hid hz0;have HS0:=hid hs0;have HD:=hid hD;have HDS:=hid hDs;clear hf hbr hki hi0 hz0 hs0 hD hDs hcl hin h1 h2 hl
 go_enter Tryz.func96,Tryz.ntmps96
 go_upto_region 1 with fail
 have hP:(w.alloc (.cells C 23)).heap[w.heap.size]?=some (.cells C 23 (0,0)):=Qaa _ _
 have k1:Kept w.heap.size w.heap.size w (w.alloc (.cells C 23)):=zI.alloc (zB _) _
 generalize w.alloc (.cells C 23)=w1 at hP k1 |-
 obtain⟨wa,hwa⟩:∃wa,wa=w.heap.size:=⟨_,rfl⟩;rw[<-hwa] at hP |-;have HP:=hid hP;have HK1:=hid k1;have HWA:=hid hwa;clear hP k1 hwa
 go_upto_region 3 with(go_at_call 128;refine(HF.out _).mono ?_;rintro e w2 ⟨rfl,rfl⟩)
 refine zA ?_;refine @wQ _ _ _ _ _ _ _ ?hwT ?_
 case hwT=>kernel_rfl
 intro K hK;go_simp;refine hK _ _ ?_;refine Qav ?hwa1 23 _ rfl wa rfl 23 C (0,0) _ HP.out Tryz.underlying23 rfl HKI.out ?_
 case hwa1=>kernel_rfl
 simp only[Act.put,sA,sB,sC];refine Qgz rfl 143 2 _ rfl _ rfl (HBR.out _) ?_
 simp only[Act.put,sA,sB,sC];refine Qbh ?hwa2 _ 139 143 rfl i0 z0 Tryz.underlying139 HI0.out HZ0.out D rfl (by rw[HS0.out];exact HDS.out) (by rw[HS0.out];decide) (by rw[HS0.out];decide) ?_
 case hwa2=>kernel_rfl
 simp only[Act.put,sA,sB,sC];have hN:(w2.alloc (.cells D 143)).heap[w2.heap.size]?=some (.cells D 143 (0,0)):=Qaa _ _
 have k3:Kept w.heap.size w.heap.size w (w2.alloc (.cells D 143)):=HK1.out.alloc (by have:=HK1.out.size;omega) _
 generalize w2.alloc (.cells D 143)=w4 at hN k3 |-
 obtain⟨g,hg⟩:∃g,g=w2.heap.size:=⟨_,rfl⟩;rw[<-hg] at hN |-;have hwg:w.heap.size<=g:=by rw[hg];exact HK1.out.size
 clear hg;have HN:=hid hN;have HK3:=hid k3;have HWG:=hid hwg;clear hN k3 hwg;refine wW λK hK=>?_;go_simp;refine hK _ _ ?_;refine wW λK hK=>?_;go_simp;refine hK _ _ ?_;refine wW λK hK=>?_;go_simp;refine hK _ _ ?_;refine wW λK hK=>?_;go_simp;refine hK _ _ ?_;go_wp2;refine bodyPost_ret (results_tmp2 rfl _ _ _) rfl ?_;have k5:=HK3.out.alloc HK3.out.size (.cells #[.int .i64 (bits:Int),.slice (some ⟨g,0,none⟩) 1 1] 145)
 refine⟨w4.heap.size,.slice (some ⟨g,0,none⟩) 1 1,rfl,HK3.out.size,⟨Qaa _ _,some ⟨g,0,none⟩,g,0,1,rfl,λi hi=>?_,zB _⟩,k5,λk hk=>by
  cases hk
  exact⟨HWG.out,zF HN.out⟩⟩
 have hi0:i=0:=by
  have:i<1:=hi
  omega
 subst hi0;have hgl:g<w4.heap.size:=zF HN.out;refine⟨rfl,?_,?_⟩
 ·show g<(w4.heap.push _).size
  rw[Array.size_push]
  omega
 ·have h1:=Qdl HN.out
  rw[HD.out] at h1;exact Qaf ((Kept.refl w4.heap.size w4.heap.size w4).alloc (zB _) _) h1 hgl (zD hgl)
end Go.Proofs.YtnlbgggnpoeleaaGreatDoor
