/-
 EraRef; EraRefMake0: several texts in one.
-/
import Derived.Test.YtnlbgggnpoeleaaGreatDoorEB
import Derived.Test.YtnlbgggnpoeleaaGreatDoorTreeFew
import Derived.Test.YtnlbgggnpoeleaaGreatDoorKC
set_option maxRecDepth 100000
set_option maxHeartbeats 6400000
namespace Go.Proofs.YtnlbgggnpoeleaaGreatDoor
open Go.RowKit Go.Lib
open List renaming setIfInBounds_toArray -> sA, set_cons_zero -> sB, set_cons_succ -> sC
open BigFrame renaming wpList_want -> wQ
def rowc (l:List UInt8)(n:Int)(sl:Value):List Value:=bY l++[.int .i64 n,sl]
theorem Qcr {l:List UInt8}(h:l.length=32)(n:Int)(sl:Value):(rowc l n sl).length=34:=by simp[rowc,bZ,h]
theorem Qlo (l:List UInt8)(n:Int)(a:Option Addr)(k c:Nat):∀v∈rowc l n (.slice a k c),v.oneCell'=true:=λv hv=>by
 rcases List.mem_append.1 hv with hv|hv
 ·exact Qan _ v hv
 ·simp at hv
  rcases hv with rfl|rfl <;> rfl
def recells (F:List Value)(me:Int)(kv:Value)(root:List UInt8)(bits:Int)(tk:Value)(forks:Int)(av:Value)(sent:Int)(ex ep:List UInt8):List Value:=
 F++([.int .i64 me,kv]++(rowc root bits tk++([.int .i64 forks,av,.int .i64 sent]++(bY ex++bY ep))))
theorem Qbm {F:List Value}(hF:F.length=163)(me:Int)(kv:Value){root:List UInt8}(hr:root.length=32)(bits:Int)(tk:Value)(forks:Int)(av:Value)(sent:Int){ex ep:List UInt8}(hx:ex.length=32)(hp:ep.length=32):(recells F me kv root bits tk forks av sent ex ep).length=266:=by
 simp[recells,hF,Qcr hr,bZ,hx,hp]
theorem Qf3 {F:List Value}(hF:∀v∈F,v.oneCell'=true)(me:Int)(ka ta aa:Option Addr)(kn kc tn tc an ac:Nat)(root:List UInt8)(bits forks sent:Int)(ex ep:List UInt8):∀v∈recells F me (.slice ka kn kc) root bits (.slice ta tn tc) forks (.slice aa an ac) sent ex ep,v.oneCell'=true:=λv hv=>by
 rcases List.mem_append.1 hv with hv|hv
 ·exact hF v hv
 rcases List.mem_append.1 hv with hv|hv
 ·simp at hv
  rcases hv with rfl|rfl <;> rfl
 rcases List.mem_append.1 hv with hv|hv
 ·exact Qlo _ _ _ _ _ v hv
 rcases List.mem_append.1 hv with hv|hv
 ·simp at hv
  rcases hv with rfl|rfl|rfl <;> rfl
 rcases List.mem_append.1 hv with hv|hv
 ·exact Qan _ v hv
 ·exact Qan _ v hv
section
variable {w:World} {b o:Nat} {F:List Value} {me bits forks sent:Int} {kv tk av:Value} {root ex ep:List UInt8}
theorem Qv5 (h:w.rangeAt b o (recells F me kv root bits tk forks av sent ex ep))(hF:F.length=163)(hr:root.length=32):w.rangeAt b (o+199) [.int .i64 forks,av,.int .i64 sent]:=Qaz h (F++([.int .i64 me,kv]++rowc root bits tk)) _ (bY ex++bY ep) (by simp[recells]) _ (by simp[hF,Qcr hr])
end
theorem reraInfo {cs:Array Value}(h:cs.size=266):(Tryz.prog.info? 56).map (·.size)=some cs.size:=by rw[h];kernel_rfl
theorem rframeInfo {cs:Array Value}(h:cs.size=163):(Tryz.prog.info? 49).map (·.size)=some cs.size:=by rw[h];kernel_rfl
theorem Qrn {cs:Array Value}(h:cs.size=34):(Tryz.prog.info? 53).map (·.size)=some cs.size:=by rw[h];kernel_rfl
def Qfo:List Value:=recells (Fm.zero.cells (.slice none 0 0) (.slice none 0 0)) 0 (.slice none 0 0) Tt.z32 0 (.slice none 0 0) 0 (.slice none 0 0) 0 Tt.z32 Tt.z32
theorem Qcz:Qfo.length = 266:=Qbm (Fm.cells_length Fm.zero_ok _ _) _ _ rfl _ _ _ _ _ rfl rfl
theorem Qdh (w:World):(Instr.alloc 56 true (.tuple #[])).run Tryz.prog w=.ok (.pointer (some ⟨w.heap.size,0,none⟩)) (w.alloc (.cells Qfo.toArray 56)):=by kernel_rfl
theorem Qle (l:List UInt8)(hl:l.length=32)(n:Int)(w:World):(Instr.build 53 #[(0,.agg (bY l).toArray),(1,.int .i64 n)]).run Tryz.prog w=.ok (.agg (rowc l n (.slice none 0 0)).toArray) w:=by
 revert l
 refine Qbv ?_
 intros
 kernel_rfl
theorem Qtc (f:Fm)(hf:f.Ok)(la pa ka:Option Addr)(ln lc pn pc kn kc:Nat)(me:Int)(ex:List UInt8)(he:ex.length=32)(ep:List UInt8)(hp:ep.length=32)(w:World):
  (Instr.build 56 #[(0,.agg (f.cells (.slice la ln lc) (.slice pa pn pc)).toArray),(1,.int .i64 me),(2,.slice ka kn kc),(7,.agg (bY ex).toArray),(8,.agg (bY ep).toArray)]).run Tryz.prog w=.ok (.agg (recells (f.cells (.slice la ln lc) (.slice pa pn pc)) me (.slice ka kn kc) Tt.z32 0 (.slice none 0 0) 0 (.slice none 0 0) 0 ex ep).toArray) w:=by
 obtain⟨id,par,d,said,ts⟩:=f;obtain⟨h1,h2,h3,h4⟩:=hf;simp only at h1 h2 h3 h4
 revert ex
 refine Qbv ?_;intro e0 e1 e2 e3 e4 e5 e6 e7 e8 e9 e10 e11 e12 e13 e14 e15 e16 e17 e18 e19 e20 e21 e22 e23 e24 e25 e26 e27 e28 e29 e30 e31
 revert ep
 refine Qbv ?_;intro q0 q1 q2 q3 q4 q5 q6 q7 q8 q9 q10 q11 q12 q13 q14 q15 q16 q17 q18 q19 q20 q21 q22 q23 q24 q25 q26 q27 q28 q29 q30 q31
 revert id
 refine Qbv ?_;intro a0 a1 a2 a3 a4 a5 a6 a7 a8 a9 a10 a11 a12 a13 a14 a15 a16 a17 a18 a19 a20 a21 a22 a23 a24 a25 a26 a27 a28 a29 a30 a31
 revert par
 refine Qbv ?_;intro b0 b1 b2 b3 b4 b5 b6 b7 b8 b9 b10 b11 b12 b13 b14 b15 b16 b17 b18 b19 b20 b21 b22 b23 b24 b25 b26 b27 b28 b29 b30 b31
 revert said
 refine Qbv ?_;intro c0 c1 c2 c3 c4 c5 c6 c7 c8 c9 c10 c11 c12 c13 c14 c15 c16 c17 c18 c19 c20 c21 c22 c23 c24 c25 c26 c27 c28 c29 c30 c31
 revert ts
 refine Qnf ?_;intro t0 t1 t2 t3 t4 t5 t6 t7 t8 t9 t10 t11 t12 t13 t14 t15 t16 t17 t18 t19 t20 t21 t22 t23 t24 t25 t26 t27 t28 t29 t30 t31 t32 t33 t34 t35 t36 t37 t38 t39 t40 t41 t42 t43 t44 t45 t46 t47 t48 t49 t50 t51 t52 t53 t54 t55 t56 t57 t58 t59 t60 t61 t62 t63;kernel_rfl
theorem Qiz {f:Fm}(hf:f.Ok)(a b x y:Value)(me:Int)(kv:Value)(root:List UInt8)(bits:Int)(tk:Value)(forks:Int)(av:Value)(sent:Int)(ex ep:List UInt8):
  ((recells (f.cells a b) me kv root bits tk forks av sent ex ep).set 65 x).set 66 y=recells (f.cells x y) me kv root bits tk forks av sent ex ep:=by
 unfold recells;rw[List.set_append_left _ _ (by rw[Fm.cells_length hf];decide),List.set_append_left _ _ (by rw[List.length_set,Fm.cells_length hf];decide),Fm.set_tree hf]
theorem Qi1 {F:List Value}(hF:F.length=163)(me:Int)(kv:Value){root:List UInt8}(hr:root.length=32)(bits:Int)(tk:Value)(forks:Int)(av x:Value)(sent:Int)(ex ep:List UInt8):
  (recells F me kv root bits tk forks av sent ex ep).set 200 x=recells F me kv root bits tk forks x sent ex ep:=by
 unfold recells;have h34:=Qcr hr bits tk;rw[List.set_append_right _ _ (by omega),hF,List.set_append_right _ _ (by simp),List.set_append_right _ _ (by simp[h34]),h34]
 rfl
theorem Qi0 {F:List Value}(hF:F.length=163)(me:Int)(kv:Value)(r0 r1:List UInt8)(b0 b1:Int)(t0 t1:Value)(forks:Int)(av:Value)(sent:Int)(ex ep:List UInt8):
  ∃A C,recells F me kv r0 b0 t0 forks av sent ex ep=A++(rowc r0 b0 t0++C)/\A.length=165/\recells F me kv r1 b1 t1 forks av sent ex ep=A++(rowc r1 b1 t1++C):=
 ⟨F++[.int .i64 me,kv],[.int .i64 forks,av,.int .i64 sent]++(bY ex++bY ep),by simp[recells],by simp[hF],by simp[recells]⟩
theorem Qkq:(Tryz.prog.info? 53).map (λi=>(i.zero.map (·.cells.size),i.size,i.bytes))=some (some 34,34,64):=by kernel_rfl
theorem Qp9 (w:World)(base:Nat)(v:Value)(R:List (List Value))(hown:OwnC w base 53 34 v R)(hbase:base<=w.heap.size)(b c:Nat)(x:List Value)(hx:x.length=34)(hx1:∀y∈x,y.oneCell'=true)(hb:w.rangeAt b 0 x)(hn:R.length<1073741824):
  ∃v' w',(Builtin.append_ #[54,54] 54 #[v,.slice (some ⟨b,0,none⟩) 1 c]).run Tryz.prog w=.ok v' w'/\OwnC w' base 53 34 v' (R++[x])/\w.grownBy w' v.ownBlock:=by
 obtain⟨i,z,hi,hz,hzs,hs,hby⟩:=Qdp Qkq;obtain⟨h1,ho⟩:=hown
 obtain⟨v',w',e1,e2,e3,_,e4⟩:=run_append_own_at (P:=Tryz.prog) (w:=w) base 54 54 53 i z 34 64 Tryz.underlying54 hi hz hs hby hzs (by decide) v R.length R.flatten ho ⟨b,0,none⟩ 1 c x
  (by rw[hx]) (λj u hu=>by
   rw[Addr.add_lit];have:=hb j u hu
   exact this) hx1 (by unfold maxLen;omega) (by omega) hbase
 refine⟨v',w',e1,⟨λy hy=>?_,?_⟩,e3⟩
 ·rcases List.mem_append.1 hy with h|h
  ·exact h1 y h
  ·rw[List.mem_singleton.1 h];exact⟨hx,hx1⟩
 ·rw[zE,List.flatten_append,List.length_singleton,List.flatten_singleton]
  exact e2
theorem Qp2 (w:World)(x:List Value)(hx:x.length=34):(Instr.buildSlice 54 1 #[(0,.agg x.toArray)]).run Tryz.prog w=.ok (.slice (some ⟨w.heap.size,0,none⟩) 1 1) (w.alloc (.cells x.toArray 53)):=by
 obtain⟨i,z,hi,hz,hzs,hs,hby⟩:=Qdp Qkq;exact Qcm w _ _ i z Tryz.underlying54 hi hz _ (by rw[List.size_toArray,hx,hs]) (by omega) (by omega)
theorem Qpd {w:World}{g o:Nat}{a:Option Addr}{n c:Nat}(h:w.cell? ⟨g,o,none⟩=some (.slice a n c)):(loadVar 54 ⟨g,o,none⟩).run Tryz.prog w=.ok (.slice a n c) w:=by
 go_simp
theorem Qeu (b:Nat):∀(vs:List Value) (o:Nat) (w:World),w.grownBy (w.setCells b o vs) (some b)
 | [],_,_=>⟨rfl,rfl,rfl,zB _,λ_ _ _=>rfl⟩
 | v::vs,o,w=>by
  have h1:=Qbb w b o v;have h2:=Qeu b vs (o+1) (w.setCell ⟨b,o,none⟩ v);exact⟨h2.os.trans h1.os,h2.tape.trans h1.tape,h2.output.trans h1.output,Nat.le_trans h1.size h2.size,λk hk hne=>(h2.block k (zC hk h1.size) hne).trans (h1.block k hk hne)⟩
theorem OwnC.lower14 {w:World}{base b2:Nat}{T:TypeId}{n:Nat}{v:Value}{R:List (List Value)}(h:OwnC w base T n v R)(hb:b2<=base):OwnC w b2 T n v R:=⟨h.1,Qfi h.2 hb⟩
theorem Qlm (w:World):Calls Tryz.prog 102 #[.slice none 0 0] w λe w'=>e=.returned (.slice none 0 0)/\w'=w:=by
 go_enter Tryz.func102,Tryz.ntmps102
 go_wp2_with fail
 go_loopw [3,4] (λs3 s4 wr=>s3=.slice none 0 0/\s4=.int .i64 0/\wr=w) (λ_ _ _=>0)
 case atStart=>exact⟨rfl,rfl,rfl⟩
 case round=>
  obtain⟨rfl,rfl,rfl⟩:=hrel;go_wp2;go_ret;exact⟨rfl,rfl⟩
theorem Qkc (lv pv:Value)(L:List Lf)(P:List Pr)(w:World)(hL:Lvs w lv L)(hP:Pts w pv P)(hpl:∀p∈P,p.loose.length<=1000):
  Calls Tryz.prog 73 #[.agg #[lv,pv],.slice none 0 0] w λe w'=>e=.returned (.slice none 0 0)/\Kept w.heap.size w.heap.size w w':=by
 have HRT:=hid (λ(x:World) (k:Kept w.heap.size w.heap.size w x)=>Qe4 lv pv L P x (hL.kept k) (hP.kept k) hpl)
 have HSO:=hid Qlm;obtain⟨lad,lc,rfl⟩:=hL.shape;obtain⟨pad,pc,rfl⟩:=hP.shape;obtain⟨ln,hln⟩:∃x,x=L.length:=⟨_,rfl⟩;obtain⟨pn,hpn⟩:∃x,x=P.length:=⟨_,rfl⟩;rw[<-hln,<-hpn] at HRT;rw[<-hln,<-hpn];clear hL hP hpl hln hpn
 go_enter Tryz.func73,Tryz.ntmps73
 go_upto_region 0 with fail
 refine zA ?_;iterate 2(refine wW λK hK=>?_;go_simp;apply hK;clear hK K)
 have kn:Kept w.heap.size w.heap.size w (w.alloc (.cells #[.slice lad ln lc,.slice pad pn pc] 45)):=zI.alloc (zB _) _
 have rt:=Qaa w (.cells #[.slice lad ln lc,.slice pad pn pc] 45)
 generalize w.alloc (.cells #[.slice lad ln lc,.slice pad pn pc] 45)=w1 at kn rt |-
 obtain⟨pb,hpb⟩:∃n,n=w.heap.size:=⟨_,rfl⟩;rw[<-hpb] at rt
 (try rw[<-hpb])
 clear hpb;have K1:=hid kn;have LT:=hid (run_loadVar_row w1 pb 45 45 _ (0,0) _ rt Tryz.underlying45 rfl treeInfo)
 clear kn rt
 cases hr:Tt.right L P
 ·rw[hr] at HRT
  clear hr
  go_upto_region 2 with fail
  refine zA ?_;refine wLk 45 (.tmp 2) rfl (pb) (0) rfl (.agg #[.slice lad ln lc,.slice pad pn pc]) (LT.out) ?_
  simp only[Act.put,sA,sB,sC];refine wW λK hK=>?_;go_simp;go_at_call 71
  refine(HRT.out _ K1.out).mono ?_;rintro e w2 ⟨rfl,k2⟩;have K2:=hid k2;clear k2;apply hK;clear hK K;refine wW λK hK=>?_;go_simp;apply hK;clear hK K;go_wp2;go_ret;exact⟨rfl,K1.out.onto K2.out⟩
 ·rw[hr] at HRT
  clear hr
  go_upto_region 2 with fail
  refine zA ?_;refine wLk 45 (.tmp 2) rfl (pb) (0) rfl (.agg #[.slice lad ln lc,.slice pad pn pc]) (LT.out) ?_
  simp only[Act.put,sA,sB,sC];refine wW λK hK=>?_;go_simp;go_at_call 71
  refine(HRT.out _ K1.out).mono ?_;rintro e w2 ⟨rfl,k2⟩;have K2:=hid k2;clear k2;apply hK;clear hK K;refine wW λK hK=>?_;go_simp;apply hK;clear hK K
  go_wp2_with fail
  go_loopw [5,6] (λs5 s6 wr=>s5=.slice none 0 0/\s6=.int .i64 0/\wr=w2) (λ_ _ _=>0)
  case atStart=>exact⟨rfl,rfl,rfl⟩
  case round=>
   obtain⟨rfl,rfl,rfl⟩:=hrel
   go_upto_region 11 with fail
   refine zA ?_;refine wW λK hK=>?_;go_simp;apply hK;clear hK K;refine wW λK hK=>?_;go_simp;go_at_call 102
   refine(HSO.out _).mono ?_;rintro e w3 ⟨rfl,hw⟩;subst hw;apply hK;clear hK K;refine wW λK hK=>?_;go_simp;apply hK;clear hK K;go_wp2;go_ret;exact⟨rfl,K1.out.onto K2.out⟩
def rapps (k:List UInt8)(n:Nat):List (List Value):=(List.range n).map λi=>rowc (Ky.app k i) 8 (.slice none 0 0)
theorem Qrq (k:List UInt8)(n:Nat):rapps k (n+1)=rapps k n++[rowc (Ky.app k n) 8 (.slice none 0 0)]:=by
 rw[rapps,List.range_succ,List.map_append];rfl
theorem Qe5 (k:List UInt8)(n:Nat):(rapps k n).length=n:=by simp[rapps]
def RefNew (w w':World)(RC:Array Value)(f:Fm)(L:List Lf)(P:List Pr)(me:Int)(j cc:List UInt8):Prop:=
 ∃(lv pv av:Value),RC=(recells (f.cells lv pv) me (.slice none 0 0) (Ky.key j cc 3) 32 (.slice none 0 0) 0 av 0 (Ky.key j cc 6) (Ky.key j cc 2)).toArray /\
  Kept w.heap.size w.heap.size w w'/\(∃SL,Mine (λi=>i<w.heap.size) w' lv pv L P SL)/\OwnC w' w.heap.size 53 34 av (rapps (Ky.key j cc 5) L.length)
theorem Qrp (f:Fm)(hf:f.Ok)(lv pv:Value)(L:List Lf)(P:List Pr)(me:Int)(j cc:List UInt8)(hj:j.length=32)(w:World)(hL:Lvs w lv L)(hP:Pts w pv P)(hpl:∀p∈P,p.loose.length<=1000)(hok:Er.frameOk L P f.depth f.ts=true)(hme:¬Tt.place L P me<0):
  Calls Tryz.prog 40 #[.agg (f.cells lv pv).toArray,.int .i64 me,.slice none 0 0,.agg (bY (Ky.secs j cc)).toArray] w λe w'=>∃RC,e=.returned (.tuple #[.agg RC,.int .i64 0])/\RefNew w w' RC f L P me j cc:=by
 have hok2:=hok;rw[Er.frameOk,Bool.and_eq_true,Bool.and_eq_true] at hok2;obtain⟨hrt,hdw,htw⟩:=hok2;obtain⟨h64,hpn9,_⟩:=Tt.right_parts hrt;have hn9:L.length<=1000:=by omega
 have hp9:P.length<=1000:=by omega
 rw[Er.wr,Bool.and_eq_true,decide_eq_true_eq,decide_eq_true_eq] at hdw
 have HTW:=hid (λ(i:Nat) (hi:i<f.ts.length)=>(show 0<=f.ts[i]/\f.ts[i]<=4611686018427387903 from by
  have h:=List.all_eq_true.1 htw _ (List.getElem_mem hi)
  rwa[Er.wr,Bool.and_eq_true,decide_eq_true_eq,decide_eq_true_eq] at h))
 have HRR:=hid (λ(x:World) (k:Kept w.heap.size w.heap.size w x)=>Qe4 lv pv L P x (hL.kept k) (hP.kept k) hpl)
 rw[hrt] at HRR;rw[Tt.place_same10 hrt] at hme;have hpvs:=hP.shape;have HPL:=hid (λ(x:World) (k:Kept w.heap.size w.heap.size w x)=>Qkb lv pv L me x (hL.kept k) hn9 (by obtain⟨a,c,e⟩:=hpvs;exact⟨a,_,c,e⟩))
 have HCP:=hid (λ(x:World) (k:Kept w.heap.size w.heap.size w x)=>Qlu lv pv L P x (hL.kept k) (hP.kept k) hn9 hp9 hpl)
 have HKP:=hid (λ(x:World) (k:Kept w.heap.size w.heap.size w x)=>Qkc lv pv L P x (hL.kept k) (hP.kept k) hpl)
 have HAP:=hid (λ(n:Nat) (hn:n<64) (x:World)=>Qkd (Ky.key j cc 5) (Ky.key_length hj _ _) n hn x)
 have HBE:=hid (λ(x:World)=>(λ(la pa:Option Addr) (ln lc pn pc:Nat)=>Qtc f hf la pa none ln lc pn pc 0 0 me (Ky.key j cc 6) (Ky.key_length hj _ _) (Ky.key j cc 2) (Ky.key_length hj _ _) x))
 have HBR:=hid (λ(x:World)=>Qle (Ky.key j cc 3) (Ky.key_length hj _ _) 32 x)
 have HBA:=hid (λ(n:Nat) (x:World)=>Qle (Ky.app (Ky.key j cc 5) n) (Ky.app_length _ n) 8 x)
 have HLS:=hid (λ(u:World) (b:Nat) (h:u.heap[b]?=some (.cells (bY (Ky.secs j cc)).toArray 91 (0,0))) (i:Nat) (v:List UInt8) (hv:(Ky.st j cc 6)[i]?=some v)=>Qsh (Ky.st_all hj cc 6) h i v hv)
 have HLF:=hid (λ(u:World) (b:Nat) (lv pv:Value) (h:u.heap[b]?=some (.cells (f.cells lv pv).toArray 49 (0,0)))=>run_loadVar_row u b 49 49 _ (0,0) _ h Tryz.underlying49 rfl (rframeInfo (Fm.size hf lv pv)))
 have HLT:=hid (λ(u:World) (b:Nat) (lv pv:Value) (h:u.heap[b]?=some (.cells (f.cells lv pv).toArray 49 (0,0)))=>Qdm (Fm.at_tree (Qam h) hf))
 have HLD:=hid (λ(u:World) (b:Nat) (lv pv:Value) (h:u.heap[b]?=some (.cells (f.cells lv pv).toArray 49 (0,0)))=>Fm.at_depth (Qam h) hf)
 have HLV:=hid (λ(u:World) (b:Nat) (lv pv:Value) (h:u.heap[b]?=some (.cells (f.cells lv pv).toArray 49 (0,0)))=>Fm.at_lv (Qam h) hf)
 have HLX:=hid (λ(u:World) (b:Nat) (lv pv:Value) (h:u.heap[b]?=some (.cells (f.cells lv pv).toArray 49 (0,0)))=>Fm.at_ts (Qam h) hf)
 simp only[Nat.zero_add] at HLT HLD HLV HLX;have HFO:=hid hf;have H64:=hid hf.2.2.2;have HL64:=hid h64;have HK2:=hid (Ky.key_length hj cc 2);have HK3:=hid (Ky.key_length hj cc 3);have HK6:=hid (Ky.key_length hj cc 6);obtain⟨lad,lc,rfl⟩:=hL.shape;obtain⟨pad,pc,rfl⟩:=hP.shape;obtain⟨SR,hSR⟩:∃x,x=(bY (Ky.secs j cc)).toArray:=⟨_,rfl⟩;rw[<-hSR] at HLS |-;obtain⟨ln,hln⟩:∃x,x=L.length:=⟨_,rfl⟩;obtain⟨pn,hpn⟩:∃x,x=P.length:=⟨_,rfl⟩;rw[<-hln,<-hpn] at HRR HPL HCP HKP;rw[<-hln] at HL64;rw[<-hln,<-hpn];obtain⟨FR,hFR⟩:∃x,x=(f.cells (.slice lad ln lc) (.slice pad pn pc)).toArray:=⟨_,rfl⟩;rw[<-hFR];have HLF1:=hid (λ(u:World) (b:Nat)=>HLF.out u b (.slice lad ln lc) (.slice pad pn pc))
 have HLT1:=hid (λ(u:World) (b:Nat)=>HLT.out u b (.slice lad ln lc) (.slice pad pn pc))
 have HLD1:=hid (λ(u:World) (b:Nat)=>HLD.out u b (.slice lad ln lc) (.slice pad pn pc))
 have HLV1:=hid (λ(u:World) (b:Nat)=>HLV.out u b (.slice lad ln lc) (.slice pad pn pc))
 have HLX1:=hid (λ(u:World) (b:Nat)=>HLX.out u b (.slice lad ln lc) (.slice pad pn pc))
 have HBE1:=hid (λ(x:World)=>HBE.out x lad pad ln lc pn pc)
 rw[<-hFR] at HLF1 HLT1 HLD1 HLV1 HLX1 HBE1;have HFR:=hid hFR;have HLN:=hid hln;have HPN:=hid hpn;obtain⟨dp,hdp⟩:∃x,x=f.depth:=⟨_,rfl⟩;rw[<-hdp] at HLD1 hdw;have hd0:¬dp<0:=by omega
 have hd1:¬4611686018427387903<dp:=by omega
 have hpd:¬(Tt.rplace L me)<0:=hme;obtain⟨pm,hpm⟩:∃x,x=Tt.rplace L me:=⟨_,rfl⟩;rw[<-hpm] at HPL hpd;obtain⟨ts,hts⟩:∃x,x=f.ts:=⟨_,rfl⟩;rw[<-hts] at HTW HLX1 H64;clear hf hL hP hpl hok hme hrt h64 hpn9 hn9 hp9 hSR hln hpn hFR hpm hj hdp hdw htw hts hpvs HLF HLT HLD HLV HLX HBE
 go_enter Tryz.func40,Tryz.ntmps40
 go_upto_region 0 with fail
 refine zA ?_;iterate 2(refine wW λK hK=>?_;go_simp;apply hK;clear hK K)
 refine @Qas _ _ _ _ _ _ _ _ ?_ 56 rfl _ (Qdh _) ?_;kernel_rfl
 simp only[Act.put,sA,sB,sC];refine wW λK hK=>?_;go_simp;apply hK;clear hK K;obtain⟨RZ,hRZ⟩:∃x,x=Qfo.toArray:=⟨_,rfl⟩;have HRZ:=hid hRZ;rw[<-hRZ];clear hRZ;have kn:Kept w.heap.size w.heap.size w (((w.alloc (.cells FR 49)).alloc (.cells SR 91)).alloc (.cells RZ 56)):=((zI.alloc (zB _) _).alloc (by simp) _).alloc (by simp;omega) _
 have hs1:(w.alloc (.cells FR 49)).heap.size=w.heap.size+1:=by simp
 have hs2:((w.alloc (.cells FR 49)).alloc (.cells SR 91)).heap.size=w.heap.size+1+1:=by simp
 have rf:(((w.alloc (.cells FR 49)).alloc (.cells SR 91)).alloc (.cells RZ 56)).heap[w.heap.size]?=some (.cells FR 49 (0,0)):=by
  rw[heap_alloc_old _ _ (by simp;omega),heap_alloc_old _ _ (by simp)]
  exact Qaa _ _
 have rs:(((w.alloc (.cells FR 49)).alloc (.cells SR 91)).alloc (.cells RZ 56)).heap[w.heap.size+1]?=some (.cells SR 91 (0,0)):=by
  rw[heap_alloc_old _ _ (by simp),<-hs1]
  exact Qaa _ _
 have rr:=Qaa ((w.alloc (.cells FR 49)).alloc (.cells SR 91)) (.cells RZ 56)
 rw[hs2] at rr
 (try rw[hs2])
 (try rw[hs1])
 generalize ((w.alloc (.cells FR 49)).alloc (.cells SR 91)).alloc (.cells RZ 56)=w2 at kn rf rs rr |-
 clear hs1 hs2;obtain⟨fb,hfb⟩:∃x,x=w.heap.size:=⟨_,rfl⟩;obtain⟨sb,hsb⟩:∃x,x=w.heap.size+1:=⟨_,rfl⟩;obtain⟨zb,hzb⟩:∃x,x=w.heap.size+1+1:=⟨_,rfl⟩;rw[<-hzb] at rr
 (try rw[<-hzb])
 rw[<-hsb] at rs
 (try rw[<-hsb])
 rw[<-hfb] at rf
 (try rw[<-hfb])
 have HFB:=hid (show w.heap.size<=fb/\w.heap.size<=zb/\fb≠zb/\sb≠zb by omega)
 have RF:=hid rf;have RS:=hid rs;have RR:=hid rr;have K2:=hid kn;clear hfb hsb hzb kn rf rs rr
 go_upto_region 1 with fail
 refine zA ?_;refine wW λK hK=>?_;go_simp;apply hK;clear hK K;refine wLk 45 (.tmp 13) rfl (fb) (65) rfl (.agg #[.slice lad ln lc,.slice pad pn pc]) (HLT1.out _ _ RF.out) ?_
 simp only[Act.put,sA,sB,sC];refine wW λK hK=>?_;go_simp;go_at_call 71
 refine(HRR.out _ K2.out).mono ?_;rintro e w3 ⟨rfl,k3⟩;have K3:=hid k3;clear k3;apply hK;clear hK K;iterate 3(refine wW λK hK=>?_;go_simp;apply hK;clear hK K)
 have c64:=HLD1.out _ _ (rK RF.out K3.out);refine wW λK hK=>?_;go_simp;apply hK;clear hK K;clear c64;iterate 4(refine wW λK hK=>?_;go_simp;apply hK;clear hK K)
 have c64:=HLD1.out _ _ (rK RF.out K3.out);refine wW λK hK=>?_;go_simp;apply hK;clear hK K;clear c64;iterate 2(refine wW λK hK=>?_;go_simp;apply hK;clear hK K)
 go_upto_region 3 with fail
 refine zA ?_;refine wW λK hK=>?_;go_simp;apply hK;clear hK K
 go_wp2_with fail
 go_loopw [10] (λs10 wr=>∃i:Nat,s10=.int .i64 (i:Int)/\Hid (i<=64)/\wr=w3) (λs10 _=>64-(RowKit.intOf s10).toNat)
 case atStart=>exact⟨0,rfl,hid (Nat.zero_le _),rfl⟩
 case round=>
  obtain⟨i,rfl,hi,hw9⟩:=hrel;subst hw9
  by_cases hlt:i<64
  ·have hlti:(i:Int)<64:=by omega
   have hi0:¬(i:Int)<0:=by omega
   have hiT:i<ts.length:=by rw[H64.out];exact hlt
   have ct:=HLX1.out _ fb (rK RF.out K3.out) i _ (Qmq hiT);have ht:=HTW.out i hiT;have ht0:¬ts[i]<0:=by omega
   have ht1:¬4611686018427387903<ts[i]:=by omega
   generalize ts[i]=t at ct ht0 ht1;have HLT2:=hid hlt;clear ht hlt hi hiT
   go_upto_region 4 with fail
   refine zA ?_;iterate 2(refine wW λK hK=>?_;go_simp;apply hK;clear hK K)
   go_upto_region 6 with fail
   refine zA ?_;iterate 12(refine wW λK hK=>?_;go_simp;apply hK;clear hK K)
   go_wp2
   go_roundw
   case rel=>exact⟨i+1,by simp,hid HLT2.out,by first|rfl|trivial⟩
   case measure=>have:=HLT2.out;simp[RowKit.intOf];omega
  ·have hnl:¬(i:Int)<64:=by omega
   clear hlt hi
   go_upto_region 8 with fail
   refine zA ?_;refine wW λK hK=>?_;go_simp;apply hK;clear hK K;refine wLk 45 (.tmp 45) rfl (fb) (65) rfl (.agg #[.slice lad ln lc,.slice pad pn pc]) (HLT1.out _ _ (rK RF.out K3.out)) ?_
   simp only[Act.put,sA,sB,sC];refine wW λK hK=>?_;go_simp;apply hK;clear hK K;refine wW λK hK=>?_;go_simp;go_at_call 72
   refine(HPL.out _ (K2.out.onto K3.out)).mono ?_;rintro e w4 ⟨rfl,k4⟩;have K4:=hid (K3.out.onto k4);clear k4;apply hK;clear hK K;refine wW λK hK=>?_;go_simp;apply hK;clear hK K
   go_upto_region 10 with fail
   obtain⟨KX,hKX⟩:∃x,x=(bY (Ky.key j cc 6)).toArray:=⟨_,rfl⟩;obtain⟨KP,hKP⟩:∃x,x=(bY (Ky.key j cc 2)).toArray:=⟨_,rfl⟩;have KW4:=hid (K2.out.onto K4.out);have LFR:=hid (λ(x:World) (k:Kept w4.heap.size w4.heap.size w4 x)=>HLF1.out x fb (rK RF.out (K4.out.onto k)))
   have LTR:=hid (λ(x:World) (k:Kept w4.heap.size w4.heap.size w4 x)=>HLT1.out x fb (rK RF.out (K4.out.onto k)))
   have LKX:=hid (λ(x:World) (k:Kept w4.heap.size w4.heap.size w4 x)=>(show(loadVar 22 ⟨sb,192,none⟩).run Tryz.prog x=.ok (.agg (bY (Ky.key j cc 6)).toArray) x from HLS.out x sb (rK RS.out (K4.out.onto k)) 6 _ rfl))
   have LKP:=hid (λ(x:World) (k:Kept w4.heap.size w4.heap.size w4 x)=>(show(loadVar 22 ⟨sb,64,none⟩).run Tryz.prog x=.ok (.agg (bY (Ky.key j cc 2)).toArray) x from HLS.out x sb (rK RS.out (K4.out.onto k)) 2 _ rfl))
   have hb0:=HBE1.out;obtain⟨RC0,hRC0⟩:∃x,x=(recells (f.cells (.slice lad ln lc) (.slice pad pn pc)) me (.slice none 0 0) Tt.z32 0 (.slice none 0 0) 0 (.slice none 0 0) 0 (Ky.key j cc 6) (Ky.key j cc 2)).toArray:=⟨_,rfl⟩;have HSZ0:=hid (show RC0.size=266 by rw[hRC0,List.size_toArray,Qbm (Fm.cells_length HFO.out _ _) _ _ rfl _ _ _ _ _ HK6.out HK2.out])
   have HAL0:=hid (show RC0.all (·.oneCell')=true by rw[hRC0];exact all_oneCell_toArray (Qf3 (f.cells_one _ _ _ _ _ _) _ _ _ _ _ _ _ _ _ _ _ _ _ _ _ _))
   rw[<-hKX] at LKX hb0;rw[<-hKP] at LKP hb0;rw[<-hRC0] at hb0;have HB0:=hid hb0;have HRC0:=hid hRC0;clear hKX hKP hb0 hRC0;refine Code.wp_mono (Q:=λe a u=>e=.normal/\∃gt,a={ tmps:=#[.agg FR,.int .i64 me,.slice none 0 0,.agg SR,.pointer (some ⟨fb,0,none⟩),undef,undef,.pointer (some ⟨sb,0,none⟩),.pointer (some ⟨zb,0,none⟩),u9,.int .i64 (i:Int),.pointer (some ⟨gt,0,none⟩),undef,.pointer (some ⟨fb,65,none⟩),.agg #[.slice lad ln lc,.slice pad pn pc],.bool true,.bool false,.bool false,.pointer (some ⟨fb,64,none⟩),.int .i64 dp,.bool false,.bool false,.bool false,.pointer (some ⟨fb,64,none⟩),.int .i64 dp,.bool false,.bool false,undef,.int .i64 (i:Int),.bool false,u30,u31,u32,u33,u34,u35,u36,u37,u38,u39,u40,u41,u42,u43,u44,.pointer (some ⟨fb,65,none⟩),.agg #[.slice lad ln lc,.slice pad pn pc],.int .i64 me,.int .i64 pm,.bool (decide (pm<0)),undef,.agg FR,.int .i64 me,.pointer (some ⟨fb,65,none⟩),.agg #[.slice lad ln lc,.slice pad pn pc],.slice none 0 0,.slice none 0 0,.pointer (some ⟨sb,192,none⟩),.agg KX,.pointer (some ⟨sb,64,none⟩),.agg KP,.agg RC0,undef,undef,undef,undef,undef,undef,undef,undef,undef,undef,undef,undef,undef,undef,undef,undef,undef,undef,undef,undef,undef,undef,undef,undef,undef,undef,undef,undef],defers:=[] }/\Kept w4.heap.size w4.heap.size w4 u/\u.heap[gt]?=some (.cells RC0 56 (0,0))/\w4.heap.size<=gt) ?rest ?reg
   case reg=>
    refine wp_region_noPanic ?_;refine wp_region_held_drew (S:=λw'=>Kept w4.heap.size w4.heap.size w4 w') (by kernel_rfl) (zI.drew) (λhH=>?_)
    have Kwd:=hH;obtain⟨wd,hwd⟩:∃wd,wd=w4.drew:=⟨_,rfl⟩;rw[<-hwd] at hH Kwd |-;clear hwd;refine tkA (i:=0) 51 (.agg FR) rfl (yK (by kernel_rfl) 49 _ rfl (fb) (0) rfl (.agg FR) (LFR.out)) hH ?_
    simp only[sA,sB,sC];refine tkE (i:=1) 52 rfl hH ?_
    apply zH
    ·intro w9 _
     go_simp
     first|done|rfl
    simp only[sA,sB,sC];refine tkE (i:=2) 53 rfl hH ?_
    apply zH
    ·intro w9 _
     go_simp
     first|done|rfl
    simp only[sA,sB,sC];refine tkA (i:=3) 54 (.agg #[.slice lad ln lc,.slice pad pn pc]) rfl (yK (by kernel_rfl) 45 _ rfl (fb) (65) rfl (.agg #[.slice lad ln lc,.slice pad pn pc]) (LTR.out)) hH ?_
    simp only[sA,sB,sC];refine tkE (i:=4) 55 rfl hH ?_
    apply zH
    ·intro w9 _
     go_simp
     first|done|rfl
    simp only[sA,sB,sC];refine tkE (i:=6) 57 rfl hH ?_
    apply zH
    ·intro w9 _
     go_simp
     first|done|rfl
    simp only[sA,sB,sC];refine tkA (i:=7) 58 (.agg KX) rfl (yK (by kernel_rfl) 22 _ rfl (sb) (192) rfl (.agg KX) (LKX.out)) hH ?_
    simp only[sA,sB,sC];refine tkE (i:=8) 59 rfl hH ?_
    apply zH
    ·intro w9 _
     go_simp
     first|done|rfl
    simp only[sA,sB,sC];refine tkA (i:=9) 60 (.agg KP) rfl (yK (by kernel_rfl) 22 _ rfl (sb) (64) rfl (.agg KP) (LKP.out)) hH ?_
    simp only[sA,sB,sC];refine wpAnyH_ready (rs:=[5,11]) (by kernel_rfl) (by simp) ?_
    refine AllReadyH.cons rfl (λK hK=>?_) ?_
    ·rw[zG (by rfl)]
     go_simp
     go_wp2_with (go_at_call 73;refine(HKP.out _ (KW4.out.onto Kwd)).mono ?_;rintro e x1 ⟨rfl,kx1⟩)
     have Kx1:Kept w4.heap.size w4.heap.size w4 x1:=Kwd.onto kx1;refine hK.out _ _ Kx1 (λhH=>?_)
     clear hK K;refine tkA (i:=10) 61 (.agg RC0) rfl (Qa4 (by kernel_rfl) 56 _ rfl #[(0,.agg FR),(1,.int .i64 me),(2,.slice none 0 0),(7,.agg KX),(8,.agg KP)] (by kernel_rfl) _ HB0.out) hH ?_
     simp only[sA,sB,sC];refine wpAnyH_ready (rs:=[11]) (by kernel_rfl) (by simp) ?_
     refine AllReadyH.cons rfl (λK hK=>?_) AllReadyH.nil
     rw[zG (by rfl)]
     obtain⟨gt,hgt⟩:∃gt,gt=x1.heap.size:=⟨_,rfl⟩;have er:=Qdh x1;have ho:=Qaa x1 (.cells Qfo.toArray 56)
     rw[<-hgt] at er ho;have hkk:Kept x1.heap.size x1.heap.size x1 (x1.alloc (.cells Qfo.toArray 56)):=zI.alloc (zB _) _
     generalize x1.alloc (.cells Qfo.toArray 56)=x2 at er ho hkk
     refine Qa1 56 rfl (some 11) rfl _ er ?_
     simp only[Act.put,sA,sB,sC];have Kx2:Kept w4.heap.size w4.heap.size w4 x2:=Kx1.onto hkk;have HGT:=hid (show w4.heap.size<=gt by rw[hgt];exact Kx1.size)
     have HOx2:=hid ho;clear er ho hgt hkk;refine hK.out _ _ Kx2 (λhH=>?_)
     clear hK K;refine wpAnyH_ready (rs:=[12]) (by kernel_rfl) (by simp) ?_
     refine AllReadyH.cons rfl (λK hK=>?_) AllReadyH.nil
     rw[zG (by rfl)]
     refine Qau 56 _ _ rfl rfl gt RC0 rfl rfl 56 Qfo.toArray (HOx2.out) (reraInfo HSZ0.out) (by rw[HSZ0.out,List.size_toArray,Qcz]) HAL0.out ?_
     have HS:=setRow_heap x2 gt _ RC0 _ _ (HOx2.out);have HKE:Kept w4.heap.size w4.heap.size w4 (x2.setRow gt RC0):=Qak Kx2 gt HGT.out _;generalize x2.setRow gt RC0=we at HS HKE |-;refine hK.out _ _ HKE (λhH=>?_)
     clear hK K;refine wpAnyH_done (by kernel_rfl) ?_ _
     refine NoPanic.normal ?_;exact⟨rfl,gt,rfl,HKE,HS,HGT.out⟩
    refine AllReadyH.cons rfl (λK hK=>?_) AllReadyH.nil
    rw[zG (by rfl)]
    obtain⟨gt,hgt⟩:∃gt,gt=wd.heap.size:=⟨_,rfl⟩;have er:=Qdh wd;have ho:=Qaa wd (.cells Qfo.toArray 56)
    rw[<-hgt] at er ho;have hkk:Kept wd.heap.size wd.heap.size wd (wd.alloc (.cells Qfo.toArray 56)):=zI.alloc (zB _) _
    generalize wd.alloc (.cells Qfo.toArray 56)=x1 at er ho hkk
    refine Qa1 56 rfl (some 11) rfl _ er ?_
    simp only[Act.put,sA,sB,sC];have Kx1:Kept w4.heap.size w4.heap.size w4 x1:=Kwd.onto hkk;have HGT:=hid (show w4.heap.size<=gt by rw[hgt];exact Kwd.size)
    have HOx1:=hid ho;clear er ho hgt hkk;refine hK.out _ _ Kx1 (λhH=>?_)
    clear hK K;refine wpAnyH_ready (rs:=[5]) (by kernel_rfl) (by simp) ?_
    refine AllReadyH.cons rfl (λK hK=>?_) AllReadyH.nil
    rw[zG (by rfl)]
    go_simp
    go_wp2_with (go_at_call 73;refine(HKP.out _ (KW4.out.onto Kx1)).mono ?_;rintro e x2 ⟨rfl,kx2⟩)
    have Kx2:Kept w4.heap.size w4.heap.size w4 x2:=Kx1.onto kx2;refine hK.out _ _ Kx2 (λhH=>?_)
    clear hK K;refine tkA (i:=10) 61 (.agg RC0) rfl (Qa4 (by kernel_rfl) 56 _ rfl #[(0,.agg FR),(1,.int .i64 me),(2,.slice none 0 0),(7,.agg KX),(8,.agg KP)] (by kernel_rfl) _ HB0.out) hH ?_
    simp only[sA,sB,sC];refine wpAnyH_ready (rs:=[12]) (by kernel_rfl) (by simp) ?_
    refine AllReadyH.cons rfl (λK hK=>?_) AllReadyH.nil
    rw[zG (by rfl)]
    refine Qau 56 _ _ rfl rfl gt RC0 rfl rfl 56 Qfo.toArray (rK HOx1.out kx2) (reraInfo HSZ0.out) (by rw[HSZ0.out,List.size_toArray,Qcz]) HAL0.out ?_
    have HS:=setRow_heap x2 gt _ RC0 _ _ (rK HOx1.out kx2);have HKE:Kept w4.heap.size w4.heap.size w4 (x2.setRow gt RC0):=Qak Kx2 gt HGT.out _;generalize x2.setRow gt RC0=we at HS HKE |-;refine hK.out _ _ HKE (λhH=>?_)
    clear hK K;refine wpAnyH_done (by kernel_rfl) ?_ _
    refine NoPanic.normal ?_;exact⟨rfl,gt,rfl,HKE,HS,HGT.out⟩
   case rest=>
    rintro e a u ⟨rfl,gt,rfl,ku,ru,hgt⟩;have HGT:=hid hgt;have KU:=hid (K4.out.onto ku);have KUW:=hid (K2.out.onto (K4.out.onto ku));rw[HRC0.out] at ru;have RU:=hid ru;clear ku ru hgt
    go_upto_region 11 with fail
    refine zA ?_;refine wW λK hK=>?_;go_simp;apply hK;clear hK K;refine wLk 45 (.tmp 62) rfl (fb) (65) rfl (.agg #[.slice lad ln lc,.slice pad pn pc]) (HLT1.out _ _ (rK RF.out KU.out)) ?_
    simp only[Act.put,sA,sB,sC];refine wW λK hK=>?_;go_simp;go_at_call 74
    refine(HCP.out _ KUW.out).mono ?_;rintro e w5 ⟨nlv,npv,rfl,k5,SL,m5⟩;obtain⟨nlad,nlc,hnl⟩:=m5.lvs.shape;obtain⟨npad,npc,hnp⟩:=m5.pts.shape;rw[<-HLN.out] at hnl;rw[<-HPN.out] at hnp;subst hnl;subst hnp;have r5:=rK RU.out k5;have hgu:=zF RU.out;have g6:=Qbb w5 gt 65 (.slice nlad ln nlc);have g7:=Qbb (w5.setCell ⟨gt,65,none⟩ (.slice nlad ln nlc)) gt 66 (.slice npad pn npc);have m6:=(m5.aside (b:=gt) hgu g6).aside (b:=gt) hgu g7;have k6:=(KU.out.onto k5).grown g6 (KU.out.onto k5).size (λk e=>by cases e;exact Nat.le_trans K4.out.size HGT.out)
    have k7:=k6.grown g7 k6.size (λk e=>by cases e;exact Nat.le_trans K4.out.size HGT.out)
    have r7:=Qaj (Qaj r5 65 (.slice nlad ln nlc)) 66 (.slice npad pn npc);rw[Qiz HFO.out] at r7;rw[show(w5.setCell ⟨gt,65,none⟩ (.slice nlad ln nlc)).setCell ⟨gt,66,none⟩ (.slice npad pn npc)=w5.setCells gt 65 [.slice nlad ln nlc,.slice npad pn npc] from rfl] at m6 k7 r7;have HLN0:=hid (Qbm (Fm.cells_length HFO.out (.slice lad ln lc) (.slice pad pn pc)) me (.slice none 0 0) (root:=Tt.z32) rfl 0 (.slice none 0 0) 0 (.slice none 0 0) 0 HK6.out HK2.out);have M7:=hid m6;have K7:=hid k7;have R7:=hid r7;have R5:=hid r5;have HGU:=hid hgu;clear k5 m5 r5 g6 g7 m6 k6 k7 r7 hgu;apply hK;clear hK K;iterate 2(refine wW λK hK=>?_;go_simp;apply hK;clear hK K)
    refine @Qee _ _ _ _ _ _ _ ?_ 45 _ _ rfl gt 65 #[.slice nlad ln nlc,.slice npad pn npc] rfl rfl (Qeg R5.out (by rw[HLN0.out];show 65+2<=266;decide)) treeInfo (Qef _ _ _ _ _ _) ?_;kernel_rfl
    simp only[Act.put]
    (try simp only[List.toList_toArray])
    generalize w5.setCells gt 65 [.slice nlad ln nlc,.slice npad pn npc]=w7 at M7 K7 R7 |-;clear R5;obtain⟨KI,hKI⟩:∃x,x=(bY (Ky.key j cc 3)).toArray:=⟨_,rfl⟩;have LKI:=hid (λ(x:World) (k:Kept w2.heap.size w2.heap.size w2 x)=>(show(loadVar 22 ⟨sb,96,none⟩).run Tryz.prog x=.ok (.agg (bY (Ky.key j cc 3)).toArray) x from HLS.out x sb (rK RS.out k) 3 _ rfl))
    obtain⟨RI,hRI⟩:∃x,x=(rowc (Ky.key j cc 3) 32 (.slice none 0 0)).toArray:=⟨_,rfl⟩;have hl34:=Qcr HK3.out 32 (.slice none 0 0);have HRI:=hid (show RI.size=34 by rw[hRI,List.size_toArray,hl34])
    have HRA:=hid (show RI.all (·.oneCell')=true by rw[hRI];exact all_oneCell_toArray (Qlo _ _ _ _ _))
    obtain⟨A,C,ha1,ha2,ha3⟩:=Qi0 (Fm.cells_length HFO.out (.slice nlad ln nlc) (.slice npad pn npc)) me (.slice none 0 0) Tt.z32 (Ky.key j cc 3) 0 32 (.slice none 0 0) (.slice none 0 0) 0 (.slice none 0 0) 0 (Ky.key j cc 6) (Ky.key j cc 2);have r7:=R7.out;have HTH6:=hid (show w7.there gt 165 RI.size from Qeg r7 (by rw[HRI.out,Qbm (Fm.cells_length HFO.out _ _) _ _ rfl _ _ _ _ _ HK6.out HK2.out];decide))
    rw[ha1] at r7;have r8:=Qb2 (rowc (Ky.key j cc 3) 32 (.slice none 0 0)) A (rowc Tt.z32 0 (.slice none 0 0)) C w7 (by rw[hl34,Qcr rfl]) r7
    rw[<-ha3,ha2] at r8;have g8:=Qeu gt (rowc (Ky.key j cc 3) 32 (.slice none 0 0)) 165 w7;have m8:=M7.out.aside (b:=gt) HGU.out g8;have k8:=K7.out.grown g8 K7.out.size (λk e=>by cases e;exact Nat.le_trans K4.out.size HGT.out)
    rw[show rowc (Ky.key j cc 3) 32 (.slice none 0 0)=RI.toList by rw[hRI]] at r8 g8 m8 k8
    have hbr:=HBR.out;rw[<-hKI,<-hRI] at hbr;rw[<-hKI] at LKI;have R8:=hid r8;have M8:=hid m8;have K8:=hid k8;clear HBR;have HBR:=hid hbr;clear hKI hRI hl34 ha1 ha2 ha3 r7 r8 g8 m8 k8 hbr
    go_upto_region 12 with fail
    refine zA ?_;refine wW λK hK=>?_;go_simp;apply hK;clear hK K;refine wLk 22 (.tmp 67) rfl (sb) (96) rfl (.agg KI) (LKI.out _ K7.out) ?_
    simp only[Act.put,sA,sB,sC];refine @Qbw _ _ _ _ _ _ _ ?_ 53 _ rfl #[(0,.agg KI),(1,.int .i64 32)] (by kernel_rfl) _ (HBR.out _) ?_;kernel_rfl
    simp only[Act.put,sA,sB,sC];refine wW λK hK=>?_;go_simp;apply hK;clear hK K;refine @Qee _ _ _ _ _ _ _ ?_ 53 _ _ rfl gt 165 RI rfl rfl HTH6.out (Qrn HRI.out) HRA.out ?_;kernel_rfl
    simp only[Act.put];generalize w7.setCells gt 165 RI.toList=w8 at R8 M8 K8 |-;clear HTH6 HRI HRA R7 M7 K7;have HG8:=hid (zF R8.out);have hl9:(ln:Int)<=64:=by have:=HL64.out;omega
    have S8:=hid (OwnC.nil w8 w8.heap.size 53 34)
    go_upto_region 13 with fail
    refine zA ?_;refine wW λK hK=>?_;go_simp;apply hK;clear hK K
    go_wp2_with fail
    go_loopw [12] (λs12 wr=>∃i:Nat,s12=.int .i64 (i:Int)/\Hid (i<=ln)/\∃av,Hid (Kept w8.heap.size gt w8 wr)/\Hid (wr.heap[gt]?=some (.cells (recells (f.cells (.slice nlad ln nlc) (.slice npad pn npc)) me (.slice none 0 0) (Ky.key j cc 3) 32 (.slice none 0 0) 0 (av) 0 (Ky.key j cc 6) (Ky.key j cc 2)).toArray 56 (0,0)))/\Hid (OwnC wr w8.heap.size 53 34 av (rapps (Ky.key j cc 5) i))) (λs12 _=>ln-(RowKit.intOf s12).toNat)
    case atStart=>exact⟨0,rfl,hid (Nat.zero_le _),_,hid zI,R8,S8⟩
    case round=>
     obtain⟨q,rfl,hq,av,HK,HR,HO⟩:=hrel;obtain⟨aad,ag,ac,hav,_⟩:=HO.out.at;rw[Qe5] at hav;subst hav;have kw2:Kept w2.heap.size w2.heap.size w2 wr:=K8.out.overB HK.out (Nat.le_trans K4.out.size HGT.out);have LV9:=hid (Qde (d:=.int .u8) (HLV1.out wr fb (rK RF.out kw2)) (.inl rfl) rfl)
     by_cases hlt:q<ln
     ·have hltq:(q:Int)<(ln:Int):=by omega
      have kd:Kept wr.heap.size wr.heap.size wr wr.drew:=zI.drew;have hgr:=zF HR.out;have HQ64:=hid (show q<64 by have:=HL64.out;omega)
      have HLTQ:=hid hlt;have KW2:=hid kw2;clear hlt hq kw2
      go_upto_region 14 with fail
      refine zA ?_;iterate 3(refine wW λK hK=>?_;go_simp;apply hK;clear hK K)
      refine wLk 42 (.tmp 73) rfl (fb) (65) rfl (.slice lad ln lc) (LV9.out) ?_
      simp only[Act.put,sA,sB,sC];iterate 2(refine wW λK hK=>?_;go_simp;apply hK;clear hK K)
      clear LV9;obtain⟨wd,hwd⟩:∃wd,wd=wr.drew:=⟨_,rfl⟩;rw[<-hwd] at kd;have kgd:Kept w8.heap.size gt w8 wd:=HK.out.trans (kd.mono HK.out.size (λi hi _=>by have:=HK.out.size;omega))
      have rd:=rK HR.out kd;have od:=HO.out.kept kd (zB _);have k2d:=KW2.out.onto kd;have RD:=hid rd;have OD:=hid od;have KGD:=hid kgd;have K2D:=hid k2d;clear kd kgd rd od k2d hgr;obtain⟨KA,hKA⟩:∃x,x=(bY (Ky.key j cc 5)).toArray:=⟨_,rfl⟩;have HAQ:=hid (λ(x:World)=>HAP.out q HQ64.out x)
      obtain⟨KB,hKB⟩:∃x,x=(bY (Ky.app (Ky.key j cc 5) q)).toArray:=⟨_,rfl⟩;obtain⟨RB,hRB⟩:∃x,x=rowc (Ky.app (Ky.key j cc 5) q) 8 (.slice none 0 0):=⟨_,rfl⟩;have hr34:RB.length=34:=by rw[hRB];exact Qcr (Ky.app_length _ _) _ _
      have hone:∀y∈RB,y.oneCell'=true:=by rw[hRB];exact Qlo _ _ _ _ _
      have hba:=λx=>HBA.out q x
      rw[<-hKB,<-hRB] at hba;rw[<-hKA] at HAQ;rw[<-hKB] at HAQ;have HBQ:=hid hba;have HRB:=hid hRB;have H34:=hid hr34;have H1B:=hid hone;have h200:(recells (f.cells (.slice nlad ln nlc) (.slice npad pn npc)) me (.slice none 0 0) (Ky.key j cc 3) 32 (.slice none 0 0) 0 (.slice aad q ac) 0 (Ky.key j cc 6) (Ky.key j cc 2)).length=266:=Qbm (Fm.cells_length HFO.out _ _) _ _ HK3.out _ _ _ _ _ HK6.out HK2.out;have HL200:=hid (show 200<(recells (f.cells (.slice nlad ln nlc) (.slice npad pn npc)) me (.slice none 0 0) (Ky.key j cc 3) 32 (.slice none 0 0) 0 (.slice aad q ac) 0 (Ky.key j cc 6) (Ky.key j cc 2)).length by rw[h200];decide)
      have hgd:=zF RD.out;have hsd:=zF (rK RS.out K2D.out);have hsw:sb<w8.heap.size:=zC (zF RS.out) K8.out.size
      have HAV:=hid (λ(x:World) (h:Frm (λk=>k<w8.heap.size) wd x)=>Qpd (show x.cell? ⟨gt,200,none⟩=some (.slice aad q ac) from by
       have h9:=Qv5 (Qam ((h.block gt hgd HG8.out).trans RD.out)) (Fm.cells_length HFO.out _ _) HK3.out 1 _ rfl
       simpa using h9))
      have LKB:=hid (λ(x:World) (h:Frm (λk=>k<w8.heap.size) wd x)=>(show(loadVar 22 ⟨sb,160,none⟩).run Tryz.prog x=.ok (.agg (bY (Ky.key j cc 5)).toArray) x from HLS.out x sb ((h.block sb hsd hsw).trans (rK RS.out K2D.out)) 5 _ rfl))
      clear hgd hsd hsw;rw[<-hKA] at LKB;clear hKA hKB hRB hr34 hone hba h200
      go_upto_region 16 with fail
      refine wp_region_noPanic ?_;refine Qa9 10 (S:=λw'=>Frm (λk=>k<w8.heap.size) wd w') (by kernel_rfl) (by rw[hwd];exact Frm.refl _ _) (λhH=>?_)
      rw[<-hwd] at hH |-;clear hwd;refine tkT (i:=0) 79 (.pointer (some ⟨gt,200,none⟩)) rfl (.inl ⟨by kernel_rfl,λw9 _=>by go_simp;first|done|rfl⟩) hH ?_
      simp only[sA,sB,sC];refine tkT (i:=1) 80 (.slice aad q ac) rfl (yK (by kernel_rfl) 54 _ rfl (gt) (200) rfl (.slice aad q ac) (HAV.out)) hH ?_
      simp only[sA,sB,sC];refine tkT (i:=2) 81 (.pointer (some ⟨sb,160,none⟩)) rfl (.inl ⟨by kernel_rfl,λw9 _=>by go_simp;first|done|rfl⟩) hH ?_
      simp only[sA,sB,sC];refine tkT (i:=3) 82 (.agg KA) rfl (yK (by kernel_rfl) 22 _ rfl (sb) (160) rfl (.agg KA) (LKB.out)) hH ?_
      simp only[sA,sB,sC];refine tkT (i:=4) 83 (.int .i64 (q:Int)) rfl (.inl ⟨by kernel_rfl,λw9 _=>by go_simp;first|done|rfl⟩) hH ?_
      simp only[sA,sB,sC];refine Qa2 (i:=5) (by kernel_rfl) rfl (λK hK=>?_)
      rw[zG (by rfl)]
      go_simp
      go_wp2_with (go_at_call 75;refine(HAQ.out _).mono ?_;rintro e x1 ⟨rfl,kx1⟩)
      have hwx:w8.heap.size<=wd.heap.size:=KGD.out.size;have k12:=kx1.onto (kA x1 (.cells RB.toArray 53))
      have o2:=OD.out.kept k12 (zB _);have r2:=rK RD.out k12;have hrg:=Qam (Qaa x1 (.cells RB.toArray 53))
      obtain⟨v3,x3,e3,o3,g3⟩:=Qp9 _ _ _ _ o2 (Nat.le_trans hwx k12.size) x1.heap.size 1 RB H34.out H1B.out hrg (by rw[Qe5];have:=HQ64.out;omega)
      obtain⟨bad,bg,bc,hbv,_⟩:=o3.at;rw[zE,Qe5,List.length_singleton] at hbv;subst hbv;have hob:∀k,(Value.slice aad q ac).ownBlock=some k->w8.heap.size<=k:=λk e=>(World.ownsRow.lt OD.out.2 k e).1
      have f2:Frm (λk=>k<w8.heap.size) wd (x1.alloc (.cells RB.toArray 53)):=k12.fr
      have f3:=f2.trans (Qfk (B:=λk=>k<w8.heap.size) g3 (λg e=>Nat.not_lt.2 (hob g e)))
      have r3:=(g3.block gt (zF r2) (λe=>Nat.not_lt.2 (hob gt e.symm) HG8.out)).trans r2
      have r4:=Qaj r3 200 (.slice bad (q+1) bc);rw[Qi1 (Fm.cells_length HFO.out _ _) _ _ HK3.out] at r4;have g4:=Qbb x3 gt 200 (.slice bad (q+1) bc);have o4:=o3.grown g4 (.inr (λe=>by have:=(World.ownsRow.lt o3.2 gt e).1;have:=HG8.out;omega))
      have hrs:=Qrq (Ky.key j cc 5) q;rw[<-HRB.out] at hrs;rw[<-hrs] at o4;have kg3:Kept w8.heap.size gt w8 x3:=KGD.out.trans ⟨f3.os,f3.tape,f3.output,f3.size,λi hi _=>f3.block i (zC hi hwx) hi⟩
      have k9:=kg3.setB g4 kg3.size;have EB:=hid (Qp2 x1 RB H34.out);have FX1:Frm (λk=>k<w8.heap.size) wd x1:=kx1.fr
      generalize x1.alloc (.cells RB.toArray 53)=x2 at e3 f2 EB
      have E3:=hid e3;have F2:=hid f2;have F3:=hid f3;have R3:=hid r3;have R9:=hid r4;have O9:=hid o4;have K9:=hid k9;clear hwx k12 o2 r2 hrg e3 o3 g3 hob f2 f3 r3 r4 g4 o4 hrs kg3 k9 kx1;refine hK.out _ _ FX1 (λhH=>?_)
      clear hK K FX1;refine tkT (i:=6) 85 (.agg RB.toArray) rfl (Qa4 (by kernel_rfl) 53 _ rfl #[(0,.agg KB),(1,.int .i64 8)] (by kernel_rfl) _ HBQ.out) hH ?_
      simp only[sA,sB,sC];refine Qa2 (i:=7) (by kernel_rfl) rfl (λK hK=>?_)
      rw[zG (by rfl)]
      refine Qcu 54 (.tmp 85) rfl (some 86) rfl (.agg RB.toArray) _ rfl EB.out ?_
      simp only[Act.put,sA,sB,sC];refine hK.out _ _ F2.out (λhH=>?_)
      clear hK K;refine Qa2 (i:=8) (by kernel_rfl) rfl (λK hK=>?_)
      rw[zG (by rfl)]
      refine Qed (.tmp 80) (.tmp 86) 54 54 54 rfl rfl (some 87) rfl (.slice aad q ac) (.slice (some ⟨x1.heap.size,0,none⟩) 1 1) (.slice bad (q+1) bc) rfl rfl E3.out ?_
      simp only[Act.put,sA,sB,sC];refine hK.out _ _ F3.out (λhH=>?_)
      clear hK K;refine tkT (i:=9) 88 (.pointer (some ⟨gt,200,none⟩)) rfl (.inl ⟨by kernel_rfl,λw9 _=>by go_simp;first|done|rfl⟩) hH ?_
      simp only[sA,sB,sC];refine Qb4 (by kernel_rfl) rfl (λK hK=>?_)
      rw[zG (by rfl)]
      refine Qbx 54 _ _ rfl rfl gt 200 (recells (f.cells (.slice nlad ln nlc) (.slice npad pn npc)) me (.slice none 0 0) (Ky.key j cc 3) 32 (.slice none 0 0) 0 (.slice aad q ac) 0 (Ky.key j cc 6) (Ky.key j cc 2)) 56 (.slice bad (q+1) bc) rfl rfl R3.out HL200.out rfl (by kernel_rfl) ?_
      refine hK.out _ _ ?_;clear hK K;refine Qb5 (by kernel_rfl) ?_ _
      refine NoPanic.normal ?_;clear hH;generalize x3.setCell ⟨gt,200,none⟩ (.slice bad (q+1) bc)=x4 at K9 R9 O9 |-;go_wp2
      go_roundw
      case rel=>exact⟨q+1,by simp,hid HLTQ.out,_,K9,R9,O9⟩
      case measure=>have:=HLTQ.out;simp[RowKit.intOf];omega
     ·have hnl:¬(q:Int)<(ln:Int):=by omega
      have HE:=hid (show q=ln by have:=hq.out;omega)
      clear hlt hq;have hsz:=Qbm (Fm.cells_length HFO.out (.slice nlad ln nlc) (.slice npad pn npc)) me (.slice none 0 0) HK3.out 32 (.slice none 0 0) 0 (.slice aad q ac) 0 HK6.out HK2.out;have hal:=Qf3 (f.cells_one nlad npad ln nlc pn npc) me none none aad 0 0 0 0 q ac (Ky.key j cc 3) 32 0 0 (Ky.key j cc 6) (Ky.key j cc 2);obtain⟨RCF,hRCF⟩:∃x,x=(recells (f.cells (.slice nlad ln nlc) (.slice npad pn npc)) me (.slice none 0 0) (Ky.key j cc 3) 32 (.slice none 0 0) 0 (.slice aad q ac) 0 (Ky.key j cc 6) (Ky.key j cc 2)).toArray:=⟨_,rfl⟩;have HSZ:=hid (show RCF.size=266 by rw[hRCF,List.size_toArray,hsz])
      have HAL:=hid (show RCF.all (·.oneCell')=true by rw[hRCF];exact all_oneCell_toArray hal)
      have HR9:=HR.out;rw[<-hRCF] at HR9;have RG:=hid HR9;have rz:=rK RR.out (K8.out.overB HK.out (Nat.le_trans K4.out.size HGT.out));have RZ9:=hid rz;have HZS:=hid (show RZ.size=266 by rw[HRZ.out,List.size_toArray,Qcz])
      have kz:Kept w.heap.size w.heap.size w wr:=K2.out.onto (K8.out.overB HK.out (Nat.le_trans K4.out.size HGT.out));have kz9:Kept w.heap.size w.heap.size w (wr.setRow zb RCF):=Qak kz zb HFB.out.2.1 _;have g9:=Qa6 wr zb RCF;have hzs:=zF RR.out;have mz:=((M8.out.aside (b:=gt) HGU.out HK.out.grewB).aside (b:=zb) (zC hzs KU.out.size) g9).mono (B':=λi=>i<w.heap.size) (λk h=>zC h KUW.out.size)
      have oz:=HO.out.grown g9 (.inr (λe=>by have:=(World.ownsRow.lt HO.out.2 zb e).1;have:=zC hzs K8.out.size;omega))
      have hrz:=setRow_heap wr zb _ RCF _ _ rz;have HFIN:=hid (show RefNew w (wr.setRow zb RCF) RCF f L P me j cc from⟨_,_,_,hRCF,kz9,⟨SL,mz⟩,by rw[<-HLN.out,<-HE.out];exact oz.lower14 (K2.out.onto K8.out).size⟩)
      have RZF:=hid hrz;clear hsz hal hRCF HR9 rz kz kz9 g9 hzs mz oz hrz
      go_upto_region 14 with fail
      refine zA ?_;iterate 3(refine wW λK hK=>?_;go_simp;apply hK;clear hK K)
      refine wLk 42 (.tmp 73) rfl (fb) (65) rfl (.slice lad ln lc) (LV9.out) ?_
      simp only[Act.put,sA,sB,sC];iterate 2(refine wW λK hK=>?_;go_simp;apply hK;clear hK K)
      go_upto_region 17 with fail
      refine zA ?_;refine wLk 56 (.tmp 11) rfl (gt) (0) rfl (.agg RCF) (run_loadVar_row wr gt 56 56 _ (0,0) _ RG.out Tryz.underlying56 rfl (reraInfo HSZ.out)) ?_
      simp only[Act.put,sA,sB,sC];refine wpList_store_row rfl 56 _ _ rfl (zb) RCF rfl rfl 56 RZ RZ9.out (reraInfo HSZ.out) (by rw[HSZ.out,HZS.out]) HAL.out ?_
      simp only[Act.put];refine wW λK hK=>?_;go_simp;apply hK;clear hK K;generalize wr.setRow zb RCF=wz at HFIN RZF |-;go_wp2;refine bodyPost_ret (Qht rfl _ _ zb 56 _ (0,0) _ rfl RZF.out Tryz.underlying56 rfl (reraInfo HSZ.out)) rfl ?_
      exact⟨RCF,rfl,HFIN.out⟩
end Go.Proofs.YtnlbgggnpoeleaaGreatDoor
