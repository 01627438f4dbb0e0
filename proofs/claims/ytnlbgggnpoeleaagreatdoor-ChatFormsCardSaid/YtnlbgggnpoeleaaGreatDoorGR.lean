/-
 PprNew; PprKey; PprBelow; PprRows; PprFull; PprRepl: several texts in one.
-/
import Derived.Test.YtnlbgggnpoeleaaGreatDoorGQ
import Derived.Test.YtnlbgggnpoeleaaGreatDoorGE
set_option maxRecDepth 100000
set_option maxHeartbeats 3200000
namespace Go.Proofs.YtnlbgggnpoeleaaGreatDoor
open Go.RowKit Go.Lib
open List renaming setIfInBounds_toArray -> sA, set_cons_zero -> sB, set_cons_succ -> sC
open BigFrame renaming wpList_want -> wQ
theorem Qw2 {P:List UInt8->Prop}(h:∀b0 b1 b2 b3 b4 b5 b6 b7 b8 b9 b10 b11 b12 b13 b14 b15 b16 b17 b18 b19 b20 b21 b22 b23 b24 b25 b26 b27 b28 b29 b30 b31:UInt8,P [b0,b1,b2,b3,b4,b5,b6,b7,b8,b9,b10,b11,b12,b13,b14,b15,b16,b17,b18,b19,b20,b21,b22,b23,b24,b25,b26,b27,b28,b29,b30,b31])(l:List UInt8)(hl:l.length=32):P l:=by
 match l,hl with
 | [b0,b1,b2,b3,b4,b5,b6,b7,b8,b9,b10,b11,b12,b13,b14,b15,b16,b17,b18,b19,b20,b21,b22,b23,b24,b25,b26,b27,b28,b29,b30,b31],_=>exact h b0 b1 b2 b3 b4 b5 b6 b7 b8 b9 b10 b11 b12 b13 b14 b15 b16 b17 b18 b19 b20 b21 b22 b23 b24 b25 b26 b27 b28 b29 b30 b31
theorem Qld (w:World)(x y:Value)(hx:∃n,x=.int .i64 n)(hy:∃n,y=.int .i64 n)(l:List UInt8)(hl:l.length=32):(Instr.build 143 #[(0,x),(1,y),(2,.agg (bY l).toArray)]).run Tryz.prog w=.ok (.agg (x::y::bY l).toArray) w:=by
 obtain⟨n,rfl⟩:=hx;obtain⟨m,rfl⟩:=hy
 revert l
 refine Qw2 ?_
 intros
 kernel_rfl
theorem Qtb (w:World)(l:List UInt8)(hl:l.length=32):(Instr.build 143 #[(2,.agg (bY l).toArray)]).run Tryz.prog w=.ok (.agg (Pp.cells ⟨0,0,l⟩).toArray) w:=by
 revert l
 refine Qw2 ?_
 intros
 kernel_rfl
section
variable {P:Program} {ops:Array Oper} {rest:List Oper} {o:Oper} {a:Act} {w w':World} {Q:Exit->Act->World->Prop}
theorem Qgz (hgd:o.guard=none)(t:TypeId)(i:Nat)(x:Operand)(ho:o.op=.build t #[(i,x)])(v:Value){u:Value}(hx:a.eval x=v)(hr:(Instr.build t #[(i,v)]).run P w=.ok u w)(hk:wpList P ops Q rest (a.put o.dst u) w):wpList P ops Q (o::rest) a w:=by
 refine wpList_plain hgd λK hK=>?_
 unfold Oper.wp execOp;simp only[ho,List.map_toArray,List.map_cons,List.map_nil,hx,Sem.run_bind,hr,Result.andThen_ok,Sem.run_pure];exact hK _ _ hk
end
theorem seedInfoAll:(Tryz.prog.info? 143).map (λi=>(i.zero.isSome,i.size))=some (true,34):=by kernel_rfl
theorem Qt1:∃ i z,Tryz.prog.info? 143=some i/\i.zero=some z/\i.size=34:=by
 obtain⟨i,hi,h⟩:=Option.map_eq_some_iff.1 seedInfoAll;rw[Prod.mk.injEq] at h;obtain⟨z,hz⟩:=Option.isSome_iff_exists.1 h.1;exact⟨i,z,hi,hz,h.2⟩
theorem Qdl {w:World}{b:Nat}{cs:Array Value}{t:TypeId}{fz:Nat × Nat}(h:w.heap[b]?=some (.cells cs t fz)):w.rangeAt b 0 cs.toList:=λj v hv=>by
 simp only[World.cell?,h,Nat.zero_add]
 simpa using hv
theorem Qm2 (k:List UInt8)(hk:Hid (k.length=32))(b:Value)(O:List (List UInt8))(w:World)(hb:Hs w b O):Calls Tryz.prog 135 #[.pointer none,.agg (bY k).toArray,b] w λe w'=>e=.returned (.tuple #[])/\Kept w.heap.size w.heap.size w w':=by
 have hku:=keyInfo hk.out;have hk1:(bY k).toArray.size=32:=by rw[List.size_toArray,bZ,hk.out]
 have hN:∀w2:World,Kept w.heap.size w.heap.size w w2->w2.heap[w.heap.size+1]?=some (.cells (bY k).toArray 23 (0,0))->Calls Tryz.prog 112 #[.pointer none,.agg #[.slice (some ⟨w.heap.size+1,0,none⟩) 1 1,b]] w2 λe w'=>(∃n,e=.returned (.int .i64 n))/\Kept w2.heap.size w2.heap.size w2 w':=λw2 kk h2=>
  (Qqs ([k],O) (.slice (some ⟨w.heap.size+1,0,none⟩) 1 1) b w2 (Qqu hk.out h2) (hb.kept kk)).mono λe w' he=>⟨⟨_,he.1⟩,he.2⟩
 obtain⟨zp1,bad,bg,bo,bc,rfl,zp2⟩:=id hb;clear zp1 zp2 hb;generalize hkc:(bY k).toArray=kc at hku hk1 hN;have HKI:=hid hku;have HK32:=hid hk1;have HN:=hid hN;clear hkc hku hk1 hN;obtain⟨i0,z0,hi0,hz0,hzs0,hs0,hb0⟩:=Qgr;have HI0:=hid hi0;have HZ0:=hid hz0;have HS0:=hid hs0;clear hi0 hz0 hzs0 hs0 hb0
 go_enter Tryz.func135,Tryz.ntmps135
 go_upto_region 1 with fail
 have hP:(w.alloc (.cells kc 23)).heap[w.heap.size]?=some (.cells kc 23 (0,0)):=Qaa _ _
 have k1:Kept w.heap.size w.heap.size w (w.alloc (.cells kc 23)):=zI.alloc (zB _) _
 have s1:(w.alloc (.cells kc 23)).heap.size=w.heap.size+1:=by simp
 generalize w.alloc (.cells kc 23)=w1 at hP k1 s1 |-
 have HP:=hid hP;have HK1:=hid k1;have HS1:=hid s1;obtain⟨wa,hwa⟩:∃wa,wa=w.heap.size:=⟨_,rfl⟩;rw[<-hwa];have HWA:=hid hwa;clear hP k1 s1 hwa;refine zA ?_;refine wW λK hK=>?_;go_simp;apply hK;clear hK K;refine Qav ?hwa1 23 _ rfl (wa) rfl 23 kc (0,0) _ (by rw[HWA.out];exact HP.out) Tryz.underlying23 rfl HKI.out ?_
 case hwa1=>kernel_rfl
 simp only[Act.put,sA,sB,sC];refine Qbh ?hwa2 _ 147 23 rfl i0 z0 Tryz.underlying147 HI0.out HZ0.out kc rfl (by rw[HS0.out];exact HK32.out) (by rw[HS0.out];decide) (by rw[HS0.out];decide) ?_
 case hwa2=>kernel_rfl
 simp only[Act.put,sA,sB,sC];have kA:Kept w.heap.size w.heap.size w (w1.alloc (.cells kc 23)):=HK1.out.alloc HK1.out.size _
 have hA:(w1.alloc (.cells kc 23)).heap[w.heap.size+1]?=some (.cells kc 23 (0,0)):=by rw[<-HS1.out];exact Qaa _ _
 have HNN:=hid (HN.out _ kA hA);have hw1:=HS1.out;rw[<-HWA.out] at hw1 HNN;rw[hw1];clear hw1;generalize w1.alloc (.cells kc 23)=w3 at kA HNN |-
 have KA:=hid kA;clear kA hA;iterate 2(refine wW λK hK=>?_;go_simp;apply hK;clear hK K)
 refine wW λK hK=>?_;go_simp;go_at_call 112;refine HNN.out.mono ?_;rintro e w4 ⟨⟨n,rfl⟩,k4⟩
 apply hK;clear hK K;go_wp2
 go_end0
 exact⟨rfl,KA.out.trans (k4.mono KA.out.size (λi hi _=>zD (zC hi KA.out.size)))⟩
theorem Qir {s:Sd}{w:World}{g o:Nat}(h:w.rangeAt g o (Pp.cells s)):w.rangeAt g (o+2) (bY s.self):=λj v hv=>by
 have h1:=h (j+2) v (by simpa [Pp.cells] using hv)
 rw[<-h1]
 congr 2
 omega
theorem Qn0 {w:World}{g o:Nat}{l:List UInt8}(h:w.rangeAt g o (bY l))(c:Nat):(convert 106 9 (.slice (some ⟨g,o,none⟩) l.length c)).run Tryz.prog w=.ok (.string (str l)) w:=
 Qpx w g o c l λj hj=>h j _ (by simp[bY,hj])
theorem Qxj (s:Sd)(bits:Nat)(hs:Pp.In bits s)(w:World):Calls Tryz.prog 111 #[.agg (Pp.cells s).toArray,.pointer none] w λe w'=>e=.returned (.agg (bY (Pp.key s.self)).toArray)/\Kept w.heap.size w.heap.size w w':=by
 have hk:=hs.2.2;have hku:=keyInfo hk;have hD0:∀w:World,(w.alloc (.cells (Pp.cells s).toArray 143)).rangeAt w.heap.size 2 (bY s.self):=λw=>Qir (o:=0) (by simpa using Qdl (Qaa w (.cells (Pp.cells s).toArray 143)))
 generalize (Pp.cells s).toArray=D at hD0 |-;generalize s.self=k at hk hku hD0 |-;clear hs;have hdv:=λw=>Qoi ⟨#[107,101,121]⟩ (str k) w (by decide) (by rw[Qai,hk];decide)
 rw[show Sm.sum ((⟨#[107,101,121]⟩:ByteArray).data.toList++(str k).data.toList)=Pp.key k from rfl] at hdv;have hdl:(Pp.key k).length=32:=Qaw _;have hqn:=λ(b:Value) (w2:World) (hb:Hs w2 b [Pp.key k])=>Qm2 k (hid hk) b [Pp.key k] w2 hb
 generalize Pp.key k=m at hdv hdl hqn |-;have hiu:=keyInfo (l:=m) (hdl);have hzu:=keySize (l:=m) (hdl);have hcs:(bY m).toArray.size=32:=by rw[List.size_toArray,bZ,hdl]
 have hall:=Qae m;have hqm:∀(w2:World) (g:Nat),w2.heap[g]?=some (.cells (bY m).toArray 23 (0,0))->Calls Tryz.prog 135 #[.pointer none,.agg (bY k).toArray,.slice (some ⟨g,0,none⟩) 1 1] w2 λe w'=>e=.returned (.tuple #[])/\Kept w2.heap.size w2.heap.size w2 w':=λw2 g h=>hqn _ w2 (Qqu hdl h)
 have hcA:∀(w2:World) (g:Nat),w2.rangeAt g 2 (bY k)->(convert 106 9 (.slice (some ⟨g,2,none⟩) 32 32)).run Tryz.prog w2=.ok (.string (str k)) w2:=λw2 g h=>by
  have:=Qn0 h 32
  rwa[hk] at this
 have hld:∀(w2:World) (g:Nat),w2.rangeAt g 2 (bY k)->(loadVar 23 ⟨g,2,none⟩).run Tryz.prog w2=.ok (.agg (bY k).toArray) w2:=λw2 g h=>run_loadVar_mid w2 g 2 23 (bY k) _ h Tryz.underlying23 rfl (by rw[hku];simp)
 clear hqn;generalize hcu:(bY m).toArray=cu at hiu hzu hcs hall hdv hqm |-;generalize hkc:(bY k).toArray=kc at hqm hld;generalize hmc:bY k=M at hD0 hcA hld;generalize str k=sk at hcA hdv;have HIU:=hid hiu;have HZU:=hid hzu;have HALL:=hid hall;have Hcs:=hid hcs;have HDV:=hid hdv;have HQM:=hid hqm;have HLD:=hid hld;have HD0:=hid hD0;have HCA:=hid hcA;clear hiu hzu hall hcs hcu hkc hmc hdv hqm hcA hld hD0 hku hk hdl;obtain⟨i0,z0,hi0,hz0,hzs0,hs0,hb0⟩:=Qgr;have HI0:=hid hi0;have HZ0:=hid hz0;have HS0:=hid hs0;clear hi0 hz0 hzs0 hs0 hb0
 go_enter Tryz.func111,Tryz.ntmps111
 go_upto_region 1 with fail
 rw[Qao];have hR:((w.alloc (.cells D 143)).alloc (.cells zY 23)).heap[w.heap.size+1]?=some (.cells zY 23 (0,0)):=Qaq w _ _
 have k1:Kept w.heap.size w.heap.size w ((w.alloc (.cells D 143)).alloc (.cells zY 23)):=(zI.alloc (zB _) _).alloc (by simp) _
 have s1:((w.alloc (.cells D 143)).alloc (.cells zY 23)).heap.size=w.heap.size+2:=by simp
 have hM:((w.alloc (.cells D 143)).alloc (.cells zY 23)).rangeAt w.heap.size 2 M:=by
  have hz:w.heap.size<(w.alloc (.cells D 143)).heap.size:=by simp
  exact Qaf (zI.alloc (zB _) _) (HD0.out w) hz (zD hz)
 generalize (w.alloc (.cells D 143)).alloc (.cells zY 23)=w1 at hR k1 s1 hM |-
 obtain⟨wa,hwa⟩:∃wa,wa=w.heap.size:=⟨_,rfl⟩;rw[<-hwa] at hR k1 s1 hM |-;have hrow:∀w',Kept w1.heap.size w1.heap.size w1 w'->w'.heap[wa+1]?=some (.cells zY 23 (0,0)):=λw' kk=>(kk.block (wa+1) (by omega) (by omega)).trans hR
 have hmid:∀w',Kept w1.heap.size w1.heap.size w1 w'->w'.rangeAt wa 2 M:=λw' kk=>Qaf kk hM (by omega) (by omega)
 have cA:=HCA.out w1 wa hM;have HROW:=hid hrow;have HMID:=hid hmid;have HK1:=hid k1;have HS1:=hid s1;have HWA:=hid hwa;clear hR k1 s1 hM hrow hmid hwa;refine zA ?_;iterate 4(refine wW λK hK=>?_;go_simp;apply hK;clear hK K)
 refine wW λK hK=>?_;go_simp;go_at_call 134;refine(HDV.out _).mono ?_;rintro e w3 ⟨rfl,k3⟩
 apply hK;clear hK K;have k3':Kept w1.heap.size w1.heap.size w1 w3:=(zI.alloc (zB _) _).trans (k3.mono (Nat.le_succ _) (λi hi _=>by omega))
 refine Qa8 rfl 23 rfl (Qhl _) ?_
 simp only[Act.put,sA,sB,sC];refine wpList_store_row rfl 23 _ _ rfl (w3.heap.size) cu rfl rfl 23 zY (Qaa _ _) HIU.out HZU.out HALL.out ?_
 simp only[Act.put];have K4:Kept w1.heap.size w1.heap.size w1 (w3.alloc (.cells zY 23)):=k3'.alloc k3'.size _
 have K5:Kept w1.heap.size w1.heap.size w1 ((w3.alloc (.cells zY 23)).setRow w3.heap.size cu):=Kept.ofBelow (below_setRow (K4.below (zB _) (zB _)) k3'.size cu) (zB _)
 have r5:=setRow_heap (w3.alloc (.cells zY 23)) w3.heap.size zY cu _ _ (Qaa _ _)
 generalize (w3.alloc (.cells zY 23)).setRow w3.heap.size cu=w5 at K5 r5 |-
 have hwm:w1.heap.size<=w3.heap.size:=k3'.size;generalize w3.heap.size=wm at r5 hwm |-;clear K4 k3' k3 cA;have R5:=hid r5;have HK5:=hid K5;have HL5:=hid (HLD.out w5 wa (HMID.out w5 K5));clear r5 K5
 go_upto_region 2 with fail
 refine zA ?_;iterate 2(refine wW λK hK=>?_;go_simp;apply hK;clear hK K)
 refine Qbn ?hwb2 23 _ rfl wa 2 rfl (.agg kc) HL5.out ?_
 case hwb2=>kernel_rfl
 simp only[Act.put,sA,sB,sC];refine Qav ?hwb3 23 _ rfl (wm) rfl 23 cu (0,0) _ (R5.out) Tryz.underlying23 rfl HIU.out ?_
 case hwb3=>kernel_rfl
 simp only[Act.put,sA,sB,sC];refine Qbh ?hwb4 _ 147 23 rfl i0 z0 Tryz.underlying147 HI0.out HZ0.out cu rfl (by rw[HS0.out];exact Hcs.out) (by rw[HS0.out];decide) (by rw[HS0.out];decide) ?_
 case hwb4=>kernel_rfl
 simp only[Act.put,sA,sB,sC];have k6:Kept w1.heap.size w1.heap.size w1 (w5.alloc (.cells cu 23)):=HK5.out.alloc HK5.out.size _
 have h6:(w5.alloc (.cells cu 23)).heap[w5.heap.size]?=some (.cells cu 23 (0,0)):=Qaa _ _
 have r6:(w5.alloc (.cells cu 23)).heap[wm]?=some (.cells cu 23 (0,0)):=by rw[Below.heap_alloc _ _ _ (zF R5.out)];exact R5.out
 generalize w5.alloc (.cells cu 23)=w6 at k6 h6 r6 |-
 have HQ:=hid (HQM.out w6 w5.heap.size h6);generalize w5.heap.size=g5 at HQ |-;have K6:=hid k6;have R6:=hid r6;clear k6 h6 r6;refine wW λK hK=>?_;go_simp;go_at_call 135;refine HQ.out.mono ?_;rintro e w8 ⟨rfl,k8⟩
 apply hK;clear hK K;have K8:=hid (K6.out.trans (k8.mono K6.out.size (λi hi _=>zD (zC hi K6.out.size))))
 have R8:=hid (rk R6.out k8);clear k8
 go_upto_region 3 with fail
 refine zA ?_;refine Qav ?hwl1 23 _ rfl (wm) rfl 23 cu (0,0) _ (R8.out) Tryz.underlying23 rfl HIU.out ?_
 case hwl1=>kernel_rfl
 simp only[Act.put,sA,sB,sC];refine wpList_store_row rfl 23 _ _ rfl (wa+1) cu rfl rfl 23 zY (HROW.out w8 K8.out) HIU.out HZU.out HALL.out ?_
 simp only[Act.put];have t2:=setRow_heap w8 (wa+1) zY cu _ _ (HROW.out w8 K8.out)
 have t1:Kept w.heap.size w.heap.size w (w8.setRow (wa+1) cu):=by
  have e1:=HWA.out;have e2:=HS1.out;refine Kept.trans (w2:=w8) ?_ ⟨rfl,rfl,rfl,by simp[World.setRow],λk hk _=>setRow_other w8 (wa+1) k cu (by omega)⟩
  rw[<-e1];exact HK1.out.trans (K8.out.mono (by omega) (λk hk _=>by omega))
 have hiu:=HIU.out
 go_wp2_with fail
 refine bodyPost_ret (results_cell_row rfl _ _ (wa+1) 23 cu (0,0) _ rfl t2 Tryz.underlying23 rfl hiu) rfl ?_
 exact⟨rfl,t1⟩
def Qat:Array Value:=(Pp.cells ⟨0,0,List.replicate 32 0⟩).toArray
theorem Qdr:Qat.size = 34:=by decide
theorem Qia {P:Program}{fn:Func}{p q:Tmp}{ty:TypeId}(h:fn.results = #[.cell p ty,.cell q ty])(tmps:Array Value)(w:World)(g g':Nat)(t t':TypeId)(cs cs':Array Value)(fr fr':Nat × Nat)(d:TypeDesc)
  (hp:tmps.getD p undef=.pointer (some ⟨g,0,none⟩)) (hq:tmps.getD q undef=.pointer (some ⟨g',0,none⟩)) (hg:w.heap[g]?=some (.cells cs t fr)) (hg':w.heap[g']?=some (.cells cs' t' fr'))
  (hu:P.underlying ty=some d) (hd:(match d with | .struct _ | .array _ _=>true|_=>false)=true) (hi:(P.info? ty).map (·.size)=some cs.size) (hi':(P.info? ty).map (·.size)=some cs'.size) :
  (results fn tmps).run P w=.ok (.tuple #[.agg cs,.agg cs']) w:=by
 have hp':tmps[p]?.getD undef=.pointer (some ⟨g,0,none⟩):=by simpa using hp
 have hq':tmps[q]?.getD undef=.pointer (some ⟨g',0,none⟩):=by simpa using hq
 simp[results,h,hp',hq',asAddr,run_loadVar_row w g t ty cs fr d hg hu hd hi,run_loadVar_row w g' t' ty cs' fr' d hg' hu hd hi']
theorem Qfn (w:World):(Instr.alloc 143 true (.tuple #[])).run Tryz.prog w=.ok (.pointer (some ⟨w.heap.size,0,none⟩)) (w.alloc (.cells Qat 143)):=by kernel_rfl
theorem Qjw (x:Sd):(Pp.cells x).toArray.all (·.oneCell')=true:=by
 have:=Qae x.self;simp[Pp.cells,Value.oneCell'] at this |-;exact this
theorem Qjc {s:Sd}(hm:s.self.length=32){w:World}{g:Nat}(h:w.rangeAt g 0 (Pp.cells s)):(loadVar 23 ⟨g,2,none⟩).run Tryz.prog w=.ok (.agg (bY s.self).toArray) w:=
 run_loadVar_mid w g 2 23 (bY s.self) _ (Qir h) Tryz.underlying23 rfl (by rw[keyInfo hm];simp)
section
variable {P:Program} {o:Oper} {a:Act} {w w':World} {K:Act->World->Prop} {Q:Exit->Act->World->Prop}
theorem Qfq (t:TypeId)(x y z:Operand)(ho:o.op=.build t #[(0,x),(1,y),(2,z)])(u v q:Value){r:Value}(hx:a.eval x=u)(hy:a.eval y=v)(hz:a.eval z=q)(hr:(Instr.build t #[(0,u),(1,v),(2,q)]).run P w=.ok r w')(hk:K (a.put o.dst r) w'):o.wp P a w K Q:=by
 unfold Oper.wp execOp;simp only[ho,List.map_toArray,List.map_cons,List.map_nil,hx,hy,hz,Sem.run_bind,hr,Result.andThen_ok,Sem.run_pure];exact hk
end
theorem Qvg (bits:Nat)(hb:bits<=32)(s:Sd)(hs:Pp.In bits s)(hl:s.level<bits)(w:World):Calls Tryz.prog 109 #[.agg (Pp.cells s).toArray,.pointer none] w λe w'=>e=.returned (.tuple #[.agg (Pp.cells (Pp.left s)).toArray,.agg (Pp.cells (Pp.right s)).toArray])/\Kept w.heap.size w.heap.size w w':=by
 obtain⟨lev,pl,k⟩:=s;have h32:2 ^ lev<=2 ^ 32:=Nat.pow_le_pow_right (by decide) (Nat.le_trans hs.1 hb)
 have hpl:pl<4294967296:=zC hs.2.1 h32;have hlv:lev<32:=zC hl hb;have hk:k.length=32:=hs.2.2
 have hl1:IntKind.i64.wrap ((lev:Int)+1)=((lev+1:Nat):Int):=by
  rw[IntKind.wrap_i64]
  omega
 have hp1:IntKind.i64.wrap (2*(pl:Int))=((2*pl:Nat):Int):=by
  rw[IntKind.wrap_i64]
  omega
 have hp2:IntKind.i64.wrap (((2*pl:Nat):Int)+1)=((2*pl+1:Nat):Int):=by
  rw[IntKind.wrap_i64]
  omega
 have hku:=keyInfo hk;have hcells:∀w:World,(w.alloc (.cells (Pp.cells ⟨lev,pl,k⟩).toArray 143)).rangeAt w.heap.size 0 (Pp.cells ⟨lev,pl,k⟩):=λw=>by simpa using Qdl (Qaa w (.cells (Pp.cells ⟨lev,pl,k⟩).toArray 143))
 have hb1:∀w:World,(Instr.build 143 #[(0,.int .i64 ((lev+1:Nat):Int)),(1,.int .i64 ((2*pl:Nat):Int)),(2,.agg (bY (Pp.left ⟨lev,pl,k⟩).self).toArray)]).run Tryz.prog w=.ok (.agg (Pp.cells (Pp.left ⟨lev,pl,k⟩)).toArray) w:=λw=>Qld w _ _ ⟨_,rfl⟩ ⟨_,rfl⟩ _ (Qaw _)
 have hb2:∀w:World,(Instr.build 143 #[(0,.int .i64 ((lev+1:Nat):Int)),(1,.int .i64 ((2*pl+1:Nat):Int)),(2,.agg (bY (Pp.right ⟨lev,pl,k⟩).self).toArray)]).run Tryz.prog w=.ok (.agg (Pp.cells (Pp.right ⟨lev,pl,k⟩)).toArray) w:=λw=>Qld w _ _ ⟨_,rfl⟩ ⟨_,rfl⟩ _ (Qaw _)
 have hd1:=λw=>Qoi ⟨#[108,101,102,116]⟩ (str k) w (by decide) (by rw[Qai,hk];decide)
 rw[show Sm.sum ((⟨#[108,101,102,116]⟩:ByteArray).data.toList++(str k).data.toList)=(Pp.left ⟨lev,pl,k⟩).self from rfl] at hd1;have hd2:=λw=>Qoi ⟨#[114,105,103,104,116]⟩ (str k) w (by decide) (by rw[Qai,hk];decide)
 rw[show Sm.sum ((⟨#[114,105,103,104,116]⟩:ByteArray).data.toList++(str k).data.toList)=(Pp.right ⟨lev,pl,k⟩).self from rfl] at hd2;have hm1:(Pp.left ⟨lev,pl,k⟩).self.length=32:=Qaw _;have hm2:(Pp.right ⟨lev,pl,k⟩).self.length=32:=Qaw _;have hi1:=Pp.left_in hs hl;have hi2:=Pp.right_in hs hl;have hu1:=keyInfo hm1;have hu2:=keyInfo hm2;have hz1:(bY (Pp.left ⟨lev,pl,k⟩).self).toArray.size=32:=by rw[List.size_toArray,bZ,hm1]
 have hz2:(bY (Pp.right ⟨lev,pl,k⟩).self).toArray.size=32:=by rw[List.size_toArray,bZ,hm2]
 have hqn:∀(w2:World) (g:Nat),w2.heap[g]?=some (.cells (bY (Pp.left ⟨lev,pl,k⟩).self++bY (Pp.right ⟨lev,pl,k⟩).self).toArray 23 (0,0))->Calls Tryz.prog 135 #[.pointer none,.agg (bY k).toArray,.slice (some ⟨g,0,none⟩) 2 2] w2 λe w'=>e=.returned (.tuple #[])/\Kept w2.heap.size w2.heap.size w2 w':=λw2 g h=>Qm2 k (hid hk) _ _ w2 (Qxz hm1 hm2 h)
 have hsi1:(Tryz.prog.info? 143).map (·.size)=some (Pp.cells (Pp.left ⟨lev,pl,k⟩)).toArray.size:=by rw[seedInfo,List.size_toArray,Pp.cells_length hi1]
 have hsi2:(Tryz.prog.info? 143).map (·.size)=some (Pp.cells (Pp.right ⟨lev,pl,k⟩)).toArray.size:=by rw[seedInfo,List.size_toArray,Pp.cells_length hi2]
 have hsz1:Qat.size=(Pp.cells (Pp.left ⟨lev,pl,k⟩)).toArray.size:=by rw[Qdr,List.size_toArray,Pp.cells_length hi1]
 have hsz2:Qat.size=(Pp.cells (Pp.right ⟨lev,pl,k⟩)).toArray.size:=by rw[Qdr,List.size_toArray,Pp.cells_length hi2]
 have hone:∀(x:Sd),(Pp.cells x).toArray.all (·.oneCell')=true:=λx=>Qjw x
 have ha1:=hone (Pp.left ⟨lev,pl,k⟩);have ha2:=hone (Pp.right ⟨lev,pl,k⟩);have hr1:∀(w2:World) (g:Nat),w2.heap[g]?=some (.cells (Pp.cells (Pp.left ⟨lev,pl,k⟩)).toArray 143 (0,0))->(loadVar 23 ⟨g,2,none⟩).run Tryz.prog w2=.ok (.agg (bY (Pp.left ⟨lev,pl,k⟩).self).toArray) w2:=λw2 g h=>Qjc hm1 (by simpa using Qdl h)
 have hr2:∀(w2:World) (g:Nat),w2.heap[g]?=some (.cells (Pp.cells (Pp.right ⟨lev,pl,k⟩)).toArray 143 (0,0))->(loadVar 23 ⟨g,2,none⟩).run Tryz.prog w2=.ok (.agg (bY (Pp.right ⟨lev,pl,k⟩).self).toArray) w2:=λw2 g h=>Qjc hm2 (by simpa using Qdl h)
 have hcA:∀(w2:World) (g:Nat),w2.rangeAt g 2 (bY k)->(convert 106 9 (.slice (some ⟨g,2,none⟩) 32 32)).run Tryz.prog w2=.ok (.string (str k)) w2:=λw2 g h=>by
  have:=Qn0 h 32
  rwa[hk] at this
 have hc0:∀(w2:World) (g:Nat),w2.rangeAt g 0 (Pp.cells ⟨lev,pl,k⟩)->w2.cell? ⟨g,0,none⟩=some (.int .i64 (lev:Int))/\w2.cell? ⟨g,1,none⟩=some (.int .i64 (pl:Int))/\w2.rangeAt g 2 (bY k)/\(loadVar 23 ⟨g,2,none⟩).run Tryz.prog w2=.ok (.agg (bY k).toArray) w2:=λw2 g h=>
  ⟨by simpa using h 0 _ rfl,by simpa using h 1 _ rfl,Qir h,Qjc hk h⟩
 generalize (Pp.cells (Pp.left ⟨lev,pl,k⟩)).toArray=D1 at *;generalize (Pp.cells (Pp.right ⟨lev,pl,k⟩)).toArray=D2 at *;generalize hD:(Pp.cells ⟨lev,pl,k⟩).toArray=D at *;generalize Pp.cells ⟨lev,pl,k⟩=DL at *;generalize (Pp.left ⟨lev,pl,k⟩).self=m1 at *;generalize (Pp.right ⟨lev,pl,k⟩).self=m2 at *;generalize hmm:(bY m1++bY m2).toArray=M12 at *;have hmm':M12=(bY m1).toArray++(bY m2).toArray:=by rw[<-hmm];simp
 generalize (bY m1).toArray=c1 at *;generalize (bY m2).toArray=c2 at *;generalize (bY k).toArray=kc at *;generalize bY k=kl at *;generalize str k=sk at *;have HL1:=hid hl1;have HP1:=hid hp1;have HP2:=hid hp2;have HB1:=hid hb1;have HB2:=hid hb2;have HD1:=hid hd1;have HD2:=hid hd2;have HU1:=hid hu1;have HU2:=hid hu2;have HZ1:=hid hz1;have HZ2:=hid hz2;have HQN:=hid hqn;have HI1:=hid hsi1;have HI2:=hid hsi2;have HY1:=hid hsz1;have HY2:=hid hsz2;have HA1:=hid ha1;have HA2:=hid ha2;have HR1:=hid hr1;have HR2:=hid hr2;have HCA:=hid hcA;have HC0:=hid hc0;have HCE:=hid hcells;have HMM:=hid hmm';clear hl1 hp1 hp2 hb1 hb2 hd1 hd2 hu1 hu2 hz1 hz2 hqn hsi1 hsi2 hsz1 hsz2 ha1 ha2 hr1 hr2 hcA hc0 hcells hmm hmm' hD hone hi1 hi2 hm1 hm2 hku hk hpl hlv h32 hs hl hb;obtain⟨i0,z0,hi0,hz0,hzs0,hs0,hb0⟩:=Qgr;have HI0:=hid hi0;have HZ0:=hid hz0;have HS0:=hid hs0;clear hi0 hz0 hzs0 hs0 hb0
 go_enter Tryz.func109,Tryz.ntmps109
 go_upto_region 0 with fail
 refine zA ?_;refine wW λK hK=>?_;go_simp;apply hK;clear hK K;refine Qa8 rfl 143 rfl (Qfn _) ?_
 simp only[Act.put,sA,sB,sC];refine Qa8 rfl 143 rfl (Qfn _) ?_
 simp only[Act.put,sA,sB,sC];have hc:((w.alloc (.cells D 143)).alloc (.cells Qat 143)).alloc (.cells Qat 143)=((w.alloc (.cells D 143)).alloc (.cells Qat 143)).alloc (.cells Qat 143):=rfl
 have e1:(w.alloc (.cells D 143)).heap.size=w.heap.size+1:=by simp
 have e2:((w.alloc (.cells D 143)).alloc (.cells Qat 143)).heap.size=w.heap.size+2:=by simp
 have e3:(((w.alloc (.cells D 143)).alloc (.cells Qat 143)).alloc (.cells Qat 143)).heap.size=w.heap.size+3:=by simp
 have r1:(((w.alloc (.cells D 143)).alloc (.cells Qat 143)).alloc (.cells Qat 143)).heap[w.heap.size+1]?=some (.cells Qat 143 (0,0)):=by
  rw[Below.heap_alloc _ _ _ (by rw[e2];omega)]
  exact Qaq w _ _
 have r2:(((w.alloc (.cells D 143)).alloc (.cells Qat 143)).alloc (.cells Qat 143)).heap[w.heap.size+2]?=some (.cells Qat 143 (0,0)):=by
  have:=Qaa ((w.alloc (.cells D 143)).alloc (.cells Qat 143)) (.cells Qat 143)
  rwa[e2] at this
 have k1:Kept w.heap.size w.heap.size w (((w.alloc (.cells D 143)).alloc (.cells Qat 143)).alloc (.cells Qat 143)):=((zI.alloc (zB _) _).alloc (by simp) _).alloc (by rw[e2];omega) _
 have hM:(((w.alloc (.cells D 143)).alloc (.cells Qat 143)).alloc (.cells Qat 143)).rangeAt w.heap.size 0 DL:=by
  have hz:w.heap.size<(w.alloc (.cells D 143)).heap.size:=by simp
  exact Qaf ((zI.alloc (zB _) _).alloc (by simp) _) (HCE.out w) hz (zD hz)
 clear hc
 try rw[e1]
 try rw[e2]
 clear e1 e2;generalize ((w.alloc (.cells D 143)).alloc (.cells Qat 143)).alloc (.cells Qat 143)=w1 at e3 r1 r2 k1 hM |-
 obtain⟨wa,hwa⟩:∃wa,wa=w.heap.size:=⟨_,rfl⟩;rw[<-hwa] at e3 r1 r2 k1 hM |-
 have hcl:∀w',Kept (wa+1) (wa+1) w1 w'->w'.cell? ⟨wa,0,none⟩=some (.int .i64 (lev:Int))/\w'.cell? ⟨wa,1,none⟩=some (.int .i64 (pl:Int)):=λw' kk=>by
  have h:=HC0.out w' wa (Qaf kk hM (by omega) (by omega))
  exact⟨h.1,h.2.1⟩
 have hls:∀w',Kept (wa+1) (wa+1) w1 w'->(loadVar 23 ⟨wa,2,none⟩).run Tryz.prog w'=.ok (.agg kc) w':=λw' kk=>(HC0.out w' wa (Qaf kk hM (by omega) (by omega))).2.2.2
 have cA:=HCA.out w1 wa (HC0.out w1 wa hM).2.2.1;have HCL:=hid hcl;have HLS:=hid hls;have HK1:=hid k1;have HSZ:=hid e3;have HWA:=hid hwa;have HRL:=hid r1;have HRR:=hid r2;clear hcl hls k1 e3 hwa r1 r2 hM
 go_upto_region 1 with fail
 refine zA ?_;iterate 4(refine wW λK hK=>?_;go_simp;apply hK;clear hK K)
 clear cA;have HKw1:=hid (Kept.refl (wa+1) (wa+1) w1)
 go_upto_region 2 with fail
 refine wp_region_noPanic ?_;have hM:∀w9,Kept w1.heap.size w1.heap.size w1 w9->Kept (wa+1) (wa+1) w1 w9:=λw9 kk=>HKw1.out.trans (kk.mono (by have:=HSZ.out;have:=HKw1.out.size;omega) (λi hi _=>by have:=HSZ.out;have:=HKw1.out.size;omega))
 have HM:=hid hM;clear hM;refine wp_region_held_drew (S:=λw9=>Kept (wa+1) (wa+1) w1 w9) (by kernel_rfl) (HM.out _ zI.drew) (λhH=>?_)
 have kD:Kept w1.heap.size w1.heap.size w1 w1.drew:=zI.drew;have hE:w1.drew.heap.size=w1.heap.size:=rfl;obtain⟨wd,hwd⟩:∃wd,wd=w1.drew:=⟨_,rfl⟩;rw[<-hwd] at hH hE kD |-;clear hwd;have HE:=hid hE;clear hE;refine tkA (i:=0) 10 (.pointer (some ⟨wa,0,none⟩)) rfl (.inl ⟨by kernel_rfl,λw9 h9=>by go_simp⟩) hH ?_
 simp only[sA,sB,sC];refine tkA (i:=1) 11 (.int .i64 (lev:Int)) rfl (.inl ⟨by kernel_rfl,λw9 h9=>by obtain⟨c0,c1⟩:=HCL.out w9 h9;go_simp⟩) hH ?_
 simp only[sA,sB,sC];refine tkA (i:=2) 12 (.int .i64 ((lev+1:Nat):Int)) rfl (.inl ⟨by kernel_rfl,λw9 h9=>by have hw:=HL1.out;go_simp⟩) hH ?_
 simp only[sA,sB,sC];refine tkA (i:=3) 13 (.pointer (some ⟨wa,1,none⟩)) rfl (.inl ⟨by kernel_rfl,λw9 h9=>by go_simp⟩) hH ?_
 simp only[sA,sB,sC];refine tkA (i:=4) 14 (.int .i64 (pl:Int)) rfl (.inl ⟨by kernel_rfl,λw9 h9=>by obtain⟨c0,c1⟩:=HCL.out w9 h9;go_simp⟩) hH ?_
 simp only[sA,sB,sC];refine tkA (i:=5) 15 (.int .i64 ((2*pl:Nat):Int)) rfl (.inl ⟨by kernel_rfl,λw9 h9=>by have hw:=HP1.out;go_simp⟩) hH ?_
 simp only[sA,sB,sC];refine tkA (i:=6) 16 (.string sk) rfl (.inl ⟨by kernel_rfl,λw9 h9=>by go_simp⟩) hH ?_
 simp only[sA,sB,sC];refine wpAnyH_ready (rs:=[7]) (by kernel_rfl) (by simp) ?_
 refine AllReadyH.cons rfl (λK hK=>?_) AllReadyH.nil
 rw[zG (by rfl)]
 go_simp;have kA:Kept w1.heap.size w1.heap.size w1 (wd.alloc (.cells #[.string ⟨#[108,101,102,116]⟩,.string sk] 9)):=kD.alloc (by have:=HE.out;omega) _
 refine hK.out _ _ (HM.out _ kA) (λhH=>?_)
 clear hK K;refine wpAnyH_ready (rs:=[8]) (by kernel_rfl) (by simp) ?_
 refine AllReadyH.cons rfl (λK hK=>?_) AllReadyH.nil
 rw[zG (by rfl)]
 go_simp
 go_wp2_with (go_at_call 134;refine(HD1.out _).mono ?_;rintro e w3 ⟨rfl,k3⟩)
 have kB:Kept w1.heap.size w1.heap.size w1 w3:=kA.trans (k3.mono (by have:=HE.out;omega) (λi hi _=>by have:=HE.out;omega))
 refine hK.out _ _ (HM.out _ kB) (λhH=>?_)
 clear hK K k3 kA;refine wpAnyH_ready (rs:=[9]) (by kernel_rfl) (by simp) ?_
 refine AllReadyH.cons rfl (λK hK=>?_) AllReadyH.nil
 rw[zG (by rfl)]
 refine Qfq 143 _ _ _ rfl _ _ _ rfl rfl rfl (HB1.out _) ?_
 simp only[Act.put,List.setIfInBounds_toArray];refine hK.out _ _ (HM.out _ kB) (λhH=>?_)
 clear hK K;refine wpAnyH_ready (rs:=[10]) (by kernel_rfl) (by simp) ?_
 refine AllReadyH.cons rfl (λK hK=>?_) AllReadyH.nil
 rw[zG (by rfl)]
 have hz:w3.heap[wa+1]?=some (.cells Qat 143 (0,0)):=(kB.block _ (zF HRL.out) (zD (zF HRL.out))).trans HRL.out
 refine wp_store_row 143 _ _ rfl (wa+1) D1 rfl rfl 143 Qat hz HI1.out HY1.out HA1.out ?_
 simp only[Act.put];have kC:Kept (wa+1) (wa+1) w1 (w3.setRow (wa+1) D1):=(HM.out _ kB).trans ⟨rfl,rfl,rfl,by simp[World.setRow],λk hk _=>setRow_other w3 (wa+1) k D1 (by omega)⟩
 refine hK.out _ _ kC (λhH=>?_)
 clear hK K hH;refine wpAnyH_done (by kernel_rfl) ?_ _
 refine NoPanic.normal ?_;have rN:=setRow_heap w3 (wa+1) Qat D1 _ _ hz;have oN:∀k,k≠wa+1->(w3.setRow (wa+1) D1).heap[k]?=w3.heap[k]?:=λk hk=>setRow_other w3 (wa+1) k D1 hk
 have zN:(w3.setRow (wa+1) D1).heap[wa+2]?=some (.cells Qat 143 (0,0)):=(oN _ (by omega)).trans (rk HRR.out kB)
 generalize w3.setRow (wa+1) D1=w4 at kC rN zN |-;clear oN kB kD hz HE HM;have HKw4:=hid kC;have HRL':=hid rN;have HRR':=hid zN;clear HRL HRR kC rN zN;have HRL:=HRL';have HRR:=HRR';clear HRL' HRR'
 go_upto_region 3 with fail
 refine wp_region_noPanic ?_;have hM:∀w9,Kept w4.heap.size w4.heap.size w4 w9->Kept (wa+1) (wa+1) w1 w9:=λw9 kk=>HKw4.out.trans (kk.mono (by have:=HSZ.out;have:=HKw4.out.size;omega) (λi hi _=>by have:=HSZ.out;have:=HKw4.out.size;omega))
 have HM:=hid hM;clear hM;refine wp_region_held_drew (S:=λw9=>Kept (wa+1) (wa+1) w1 w9) (by kernel_rfl) (HM.out _ zI.drew) (λhH=>?_)
 have kD:Kept w4.heap.size w4.heap.size w4 w4.drew:=zI.drew;have hE:w4.drew.heap.size=w4.heap.size:=rfl;obtain⟨wd,hwd⟩:∃wd,wd=w4.drew:=⟨_,rfl⟩;rw[<-hwd] at hH hE kD |-;clear hwd;have HE:=hid hE;clear hE;refine tkA (i:=0) 20 (.pointer (some ⟨wa,0,none⟩)) rfl (.inl ⟨by kernel_rfl,λw9 h9=>by go_simp⟩) hH ?_
 simp only[sA,sB,sC];refine tkA (i:=1) 21 (.int .i64 (lev:Int)) rfl (.inl ⟨by kernel_rfl,λw9 h9=>by obtain⟨c0,c1⟩:=HCL.out w9 h9;go_simp⟩) hH ?_
 simp only[sA,sB,sC];refine tkA (i:=2) 22 (.int .i64 ((lev+1:Nat):Int)) rfl (.inl ⟨by kernel_rfl,λw9 h9=>by have hw:=HL1.out;go_simp⟩) hH ?_
 simp only[sA,sB,sC];refine tkA (i:=3) 23 (.pointer (some ⟨wa,1,none⟩)) rfl (.inl ⟨by kernel_rfl,λw9 h9=>by go_simp⟩) hH ?_
 simp only[sA,sB,sC];refine tkA (i:=4) 24 (.int .i64 (pl:Int)) rfl (.inl ⟨by kernel_rfl,λw9 h9=>by obtain⟨c0,c1⟩:=HCL.out w9 h9;go_simp⟩) hH ?_
 simp only[sA,sB,sC];refine tkA (i:=5) 25 (.int .i64 ((2*pl:Nat):Int)) rfl (.inl ⟨by kernel_rfl,λw9 h9=>by have hw:=HP1.out;go_simp⟩) hH ?_
 simp only[sA,sB,sC];refine tkA (i:=6) 26 (.int .i64 ((2*pl+1:Nat):Int)) rfl (.inl ⟨by kernel_rfl,λw9 h9=>by have hw:=HP2.out;go_simp;simpa using hw⟩) hH ?_
 simp only[sA,sB,sC];refine tkA (i:=7) 27 (.string sk) rfl (.inl ⟨by kernel_rfl,λw9 h9=>by go_simp⟩) hH ?_
 simp only[sA,sB,sC];refine wpAnyH_ready (rs:=[8]) (by kernel_rfl) (by simp) ?_
 refine AllReadyH.cons rfl (λK hK=>?_) AllReadyH.nil
 rw[zG (by rfl)]
 go_simp;have kA:Kept w4.heap.size w4.heap.size w4 (wd.alloc (.cells #[.string ⟨#[114,105,103,104,116]⟩,.string sk] 9)):=kD.alloc (by have:=HE.out;omega) _
 refine hK.out _ _ (HM.out _ kA) (λhH=>?_)
 clear hK K;refine wpAnyH_ready (rs:=[9]) (by kernel_rfl) (by simp) ?_
 refine AllReadyH.cons rfl (λK hK=>?_) AllReadyH.nil
 rw[zG (by rfl)]
 go_simp
 go_wp2_with (go_at_call 134;refine(HD2.out _).mono ?_;rintro e w3 ⟨rfl,k3⟩)
 have kB:Kept w4.heap.size w4.heap.size w4 w3:=kA.trans (k3.mono (by have:=HE.out;omega) (λi hi _=>by have:=HE.out;omega))
 refine hK.out _ _ (HM.out _ kB) (λhH=>?_)
 clear hK K k3 kA;refine wpAnyH_ready (rs:=[10]) (by kernel_rfl) (by simp) ?_
 refine AllReadyH.cons rfl (λK hK=>?_) AllReadyH.nil
 rw[zG (by rfl)]
 refine Qfq 143 _ _ _ rfl _ _ _ rfl rfl rfl (HB2.out _) ?_
 simp only[Act.put,List.setIfInBounds_toArray];refine hK.out _ _ (HM.out _ kB) (λhH=>?_)
 clear hK K;refine wpAnyH_ready (rs:=[11]) (by kernel_rfl) (by simp) ?_
 refine AllReadyH.cons rfl (λK hK=>?_) AllReadyH.nil
 rw[zG (by rfl)]
 have hz:w3.heap[wa+2]?=some (.cells Qat 143 (0,0)):=(kB.block _ (zF HRR.out) (zD (zF HRR.out))).trans HRR.out
 refine wp_store_row 143 _ _ rfl (wa+2) D2 rfl rfl 143 Qat hz HI2.out HY2.out HA2.out ?_
 simp only[Act.put];have kC:Kept (wa+1) (wa+1) w1 (w3.setRow (wa+2) D2):=(HM.out _ kB).trans ⟨rfl,rfl,rfl,by simp[World.setRow],λk hk _=>setRow_other w3 (wa+2) k D2 (by omega)⟩
 refine hK.out _ _ kC (λhH=>?_)
 clear hK K hH;refine wpAnyH_done (by kernel_rfl) ?_ _
 refine NoPanic.normal ?_;have rN:=setRow_heap w3 (wa+2) Qat D2 _ _ hz;have oN:∀k,k≠wa+2->(w3.setRow (wa+2) D2).heap[k]?=w3.heap[k]?:=λk hk=>setRow_other w3 (wa+2) k D2 hk
 have zN:(w3.setRow (wa+2) D2).heap[wa+1]?=some (.cells D1 143 (0,0)):=(oN _ (by omega)).trans (rk HRL.out kB)
 generalize w3.setRow (wa+2) D2=w6 at kC rN zN |-;clear oN kB kD hz HE HM;have HKw6:=hid kC;have HRR':=hid rN;have HRL':=hid zN;clear HRL HRR kC rN zN;have HRL:=HRL';have HRR:=HRR';clear HRL' HRR';have HL6:=hid (HLS.out w6 HKw6.out);have HQ1:=hid (HR1.out w6 (wa+1) HRL.out);have HQ2:=hid (HR2.out w6 (wa+2) HRR.out)
 go_upto_region 4 with fail
 refine zA ?_;iterate 2(refine wW λK hK=>?_;go_simp;apply hK;clear hK K)
 refine Qbn ?hwd2 23 _ rfl wa 2 rfl (.agg kc) HL6.out ?_
 case hwd2=>kernel_rfl
 simp only[Act.put,sA,sB,sC];refine wW λK hK=>?_;go_simp;apply hK;clear hK K;refine Qbn ?hwd4 23 _ rfl (wa+1) 2 rfl (.agg c1) HQ1.out ?_
 case hwd4=>kernel_rfl
 simp only[Act.put,sA,sB,sC];refine wW λK hK=>?_;go_simp;apply hK;clear hK K;refine Qbn ?hwd6 23 _ rfl (wa+2) 2 rfl (.agg c2) HQ2.out ?_
 case hwd6=>kernel_rfl
 simp only[Act.put,sA,sB,sC];refine Qf9 ?hwd7 _ _ 147 23 rfl i0 z0 Tryz.underlying147 HI0.out HZ0.out c1 c2 rfl rfl (by rw[HS0.out];exact HZ1.out) (by rw[HS0.out];exact HZ2.out) (by rw[HS0.out];decide) (by rw[HS0.out];decide) ?_
 case hwd7=>kernel_rfl
 simp only[Act.put,sA,sB,sC];have h6:(w6.alloc (.cells (c1++c2) 23)).heap[w6.heap.size]?=some (.cells M12 23 (0,0)):=by rw[HMM.out];exact Qaa _ _
 have k6:Kept w6.heap.size w6.heap.size w6 (w6.alloc (.cells (c1++c2) 23)):=zI.alloc (zB _) _
 generalize w6.alloc (.cells (c1++c2) 23)=w7 at k6 h6 |-
 have HQ:=hid (HQN.out w7 w6.heap.size h6);have K7:=hid k6;obtain⟨g6,hg6⟩:∃g6,g6=w6.heap.size:=⟨_,rfl⟩;rw[<-hg6] at HQ |-;clear k6 h6 hg6;refine wW λK hK=>?_;go_simp;go_at_call 135;refine HQ.out.mono ?_;rintro e w8 ⟨rfl,k8⟩
 apply hK;clear hK K;have J8:Kept w6.heap.size w6.heap.size w6 w8:=K7.out.trans (k8.mono K7.out.size (λi hi _=>zD (zC hi K7.out.size)))
 have K8:=hid (HKw6.out.trans (J8.mono (by have:=HSZ.out;have:=HKw6.out.size;omega) (λi hi _=>by have:=HSZ.out;have:=HKw6.out.size;omega)))
 have RL8:=hid (rk HRL.out J8);have RR8:=hid (rk HRR.out J8);clear k8 J8
 go_upto_region 5 with fail
 have hld:∀w9:World,(w9.heap[wa+1]?=some (.cells D1 143 (0,0))/\w9.heap[wa+2]?=some (.cells D2 143 (0,0)))->(loadVar 143 ⟨wa+1,0,none⟩).run Tryz.prog w9=.ok (.agg D1) w9/\(loadVar 143 ⟨wa+2,0,none⟩).run Tryz.prog w9=.ok (.agg D2) w9:=λw9 h9=>
  ⟨run_loadVar_row w9 (wa+1) 143 143 D1 (0,0) _ h9.1 Tryz.underlying143 rfl HI1.out,run_loadVar_row w9 (wa+2) 143 143 D2 (0,0) _ h9.2 Tryz.underlying143 rfl HI2.out⟩
 have HLD:=hid hld;clear hld;refine wp_region_noPanic ?_;have kD:Kept (wa+1) (wa+1) w1 w8.drew:=K8.out.trans zI.drew;have rD1:w8.drew.heap[wa+1]?=some (.cells D1 143 (0,0)):=RL8.out
 have rD2:w8.drew.heap[wa+2]?=some (.cells D2 143 (0,0)):=RR8.out
 refine wp_region_held_drew (S:=λw9=>w9.heap[wa+1]?=some (.cells D1 143 (0,0))/\w9.heap[wa+2]?=some (.cells D2 143 (0,0))) (by kernel_rfl) ⟨rD1,rD2⟩ (λhH=>?_)
 obtain⟨wd,hwd⟩:∃wd,wd=w8.drew:=⟨_,rfl⟩;rw[<-hwd] at hH kD rD1 rD2 |-;clear hwd;refine tkA (i:=0) 40 (.agg D1) rfl (yK (by rfl) 143 _ rfl (wa+1) 0 rfl (.agg D1) (λw9 h9=>(HLD.out w9 h9).1)) hH ?_
 simp only[sA,sB,sC];refine tkA (i:=1) 41 (.agg D2) rfl (yK (by rfl) 143 _ rfl (wa+2) 0 rfl (.agg D2) (λw9 h9=>(HLD.out w9 h9).2)) hH ?_
 simp only[sA,sB,sC];refine wpAnyH_ready (rs:=[2]) (by kernel_rfl) (by simp) ?_
 refine AllReadyH.cons rfl (λK hK=>?_) AllReadyH.nil
 rw[zG (by rfl)]
 refine wp_store_row 143 _ _ rfl (wa+1) D1 rfl rfl 143 D1 rD1 HI1.out rfl HA1.out ?_
 simp only[Act.put];have kE:Kept (wa+1) (wa+1) w1 (wd.setRow (wa+1) D1):=kD.trans ⟨rfl,rfl,rfl,by simp[World.setRow],λk hk _=>setRow_other wd (wa+1) k D1 (by omega)⟩
 have rE1:=setRow_heap wd (wa+1) D1 D1 _ _ rD1;have rE2:=(setRow_other wd (wa+1) (wa+2) D1 (by omega)).trans rD2
 generalize wd.setRow (wa+1) D1=we at kE rE1 rE2 |-;refine hK.out _ _ ⟨rE1,rE2⟩ (λhH=>?_)
 clear hK K;refine wpAnyH_ready (rs:=[3]) (by kernel_rfl) (by simp) ?_
 refine AllReadyH.cons rfl (λK hK=>?_) AllReadyH.nil
 rw[zG (by rfl)]
 refine wp_store_row 143 _ _ rfl (wa+2) D2 rfl rfl 143 D2 rE2 HI2.out rfl HA2.out ?_
 simp only[Act.put];have kF:Kept (wa+1) (wa+1) w1 (we.setRow (wa+2) D2):=kE.trans ⟨rfl,rfl,rfl,by simp[World.setRow],λk hk _=>setRow_other we (wa+2) k D2 (by omega)⟩
 have rF2:=setRow_heap we (wa+2) D2 D2 _ _ rE2;have rF1:=(setRow_other we (wa+2) (wa+1) D2 (by omega)).trans rE1
 generalize we.setRow (wa+2) D2=wf at kF rF1 rF2 |-;refine hK.out _ _ ⟨rF1,rF2⟩ (λhH=>?_)
 clear hK K hH;refine wpAnyH_done (by kernel_rfl) ?_ _
 refine NoPanic.normal ?_;have hi1:=HI1.out;have hi2:=HI2.out
 have t1:Kept w.heap.size w.heap.size w wf:=by
  have e1:=HWA.out;rw[<-e1];exact HK1.out.trans (kF.mono (by omega) (λk hk _=>by omega))
 go_wp2_with fail
 refine bodyPost_ret (Qia rfl _ _ (wa+1) (wa+2) _ _ D1 D2 (0,0) (0,0) _ rfl rfl rF1 rF2 Tryz.underlying143 rfl hi1 hi2) rfl ?_
 exact⟨rfl,t1⟩
theorem seedFullAll:(Tryz.prog.info? 143).map (λi=>(i.zero.map (·.cells.size),i.size,i.bytes))=some (some 34,34,48):=by kernel_rfl
theorem Qd4:∃ i z,Tryz.prog.info? 143=some i/\i.zero=some z/\z.cells.size=34/\i.size=34/\i.bytes=48:=by
 have h:=seedFullAll
 cases hq:Tryz.prog.info? 143 with
 | none=>rw[hq] at h;cases h
 | some i=>
  rw[hq] at h;simp only[Option.map_some,Option.some.injEq,Prod.mk.injEq] at h
  cases hz:i.zero with
  | none=>rw[hz] at h;cases h.1
  | some z=>
   rw[hz] at h;simp only[Option.map_some,Option.some.injEq] at h;exact⟨i,z,rfl,hz,h.1,h.2.1,h.2.2⟩
def cellsF (s:Sd):List Value:=.int .i64 (s.level:Int)::.int .i64 (s.place:Int)::bY ((s.self++List.replicate 32 0).take 32)
theorem Qbk (s:Sd):(cellsF s).length=34:=by
 simp[cellsF,bZ]
theorem Qgu {s:Sd}(h:s.self.length=32):cellsF s=Pp.cells s:=by
 unfold cellsF Pp.cells;rw[List.take_append_of_le_length (by omega),List.take_of_length_le (by omega)]
theorem Qhi (s:Sd):∀v∈cellsF s,v.oneCell'=true:=by
 intro v hv;unfold cellsF at hv
 rcases List.mem_cons.1 hv with rfl|hv
 ·rfl
 ·rcases List.mem_cons.1 hv with rfl|hv
  ·rfl
  ·unfold bY at hv
   obtain⟨b,_,rfl⟩:=List.mem_map.1 hv
   rfl
theorem Qbl:∀ (L:List Sd),(L.flatMap cellsF).length=L.length*34
 | []=>rfl
 | s::L=>by
  rw[List.flatMap_cons,zE,Qbl L,Qbk,List.length_cons]
  omega
theorem Qiu:∀ (L:List Sd) (i:Nat) (hi:i<L.length) (j:Nat),j<34->(L.flatMap cellsF)[i*34+j]?=(cellsF L[i])[j]?
 | [],i,hi,_,_=>absurd hi (Nat.not_lt_zero _)
 | s::L,0,_,j,hj=>by
  rw[List.flatMap_cons,Nat.zero_mul,Nat.zero_add,List.getElem?_append_left (by rw[Qbk];exact hj)]
  rfl
 | s::L,i+1,hi,j,hj=>by
  rw[List.flatMap_cons,List.getElem?_append_right (by rw[Qbk];omega),show(i+1)*34+j-(cellsF s).length=i*34+j by rw[Qbk];omega]
  exact Qiu L i (by simpa using hi) j hj
def OwnS (w:World)(base:Nat)(v:Value)(L:List Sd):Prop:=(∀s∈L,s.self.length=32)/\w.ownsRow base 143 34 v L.length (L.flatMap cellsF)
theorem OwnS.nil (w:World)(base:Nat):OwnS w base (.slice none 0 0) []:=⟨(λ_ h=>nomatch h),World.ownsRow_nil w base 143 34⟩
theorem OwnS.alloc {w:World}{base:Nat}{v:Value}{L:List Sd}(h:OwnS w base v L)(o:Obj):OwnS (w.alloc o) base v L:=⟨h.1,h.2.alloc o⟩
theorem OwnS.kept {w w':World}{base b:Nat}{v:Value}{L:List Sd}(h:OwnS w base v L)(k:Kept w.heap.size b w w')(hb:w.heap.size<=b):OwnS w' base v L:=
 ⟨h.1,h.2.kept (row:=none) ⟨k.os,k.tape,k.output,k.size,λi hi _=>k.block i hi (by omega)⟩ (by cases hv:v.ownBlock <;> simp)⟩
theorem OwnS.ss {w:World}{base:Nat}{v:Value}{L:List Sd}(h:OwnS w base v L):Ss w v L:=by
 obtain⟨h32,ho⟩:=h;have hlt:=ho.lt;have h0:=ho
 rcases ho.2 with⟨rfl,hn⟩|⟨g,cap,cur,rfl,hb,_,hnc,_⟩
 ·obtain rfl:=List.length_eq_zero_iff.1 hn
  exact⟨none,0,0,0,rfl,λ_ h=>absurd h (Nat.not_lt_zero _),zB _⟩
 ·refine⟨some ⟨g,0,none⟩,g,0,cap,rfl,λi hi=>⟨rfl,(hlt g rfl).2,λj u hu=>?_⟩,hnc⟩
  rw[<-Qgu (h32 _ (List.getElem_mem hi))] at hu
  have hj:j<34:=by
   rcases Nat.lt_or_ge j 34 with h1|h1
   ·exact h1
   ·rw[List.getElem?_eq_none (by rw[Qbk];exact h1)] at hu;cases hu
  have h2:=h0.cells (g:=g) rfl (i*34+j) u (by rw[Qiu L i hi j hj];exact hu)
  rw[Addr.add_lit,Nat.zero_add] at h2;rw[Nat.zero_add];exact h2
theorem Qh6 (w:World)(base:Nat)(v:Value)(L:List Sd)(hown:OwnS w base v L)(hbase:base<=w.heap.size)(b o c:Nat)(X:List Sd)(hx:∀x∈X,x.self.length=32)(hb:∀i (hi:i<X.length),w.rangeAt b (o+i*34) (Pp.cells X[i]))(hl:L.length+X.length<1073741824):
  ∃v' w',(Builtin.append_ #[139,139] 139 #[v,.slice (some ⟨b,o,none⟩) X.length c]).run Tryz.prog w=.ok v' w'/\OwnS w' base v' (L++X)/\w.grownBy w' v.ownBlock:=by
 obtain⟨i,z,hi,hz,hzs,hs34,hby⟩:=Qd4;obtain⟨h32,ho⟩:=hown
 obtain⟨v',w',h1,h2,h3,_⟩:=run_append_own (P:=Tryz.prog) w base 139 139 143 i z 34 48 Tryz.underlying139 hi hz hs34 hby hzs (by decide) v L.length (L.flatMap cellsF) ho ⟨b,o,none⟩ X.length c (X.flatMap cellsF)
  (by rw[Qbl]) (λj u hu=>by
   rw[Addr.add_lit]
   have hj:j<(X.flatMap cellsF).length:=by
    rcases Nat.lt_or_ge j (X.flatMap cellsF).length with h|h
    ·exact h
    ·rw[List.getElem?_eq_none h] at hu;cases hu
   rw[Qbl] at hj;have hq:j/34<X.length:=by omega
   have hr:j%34<34:=Nat.mod_lt _ (by decide)
   have h2:=hb (j/34) hq (j%34) u (by
    rw[<-Qgu (hx _ (List.getElem_mem hq)),<-Qiu X (j/34) hq (j%34) hr,show j/34*34+j%34=j by omega]
    exact hu)
   rw[show o+j/34*34+j%34=o+j by omega] at h2
   exact h2)
  (λv hv=>by
   obtain⟨s,_,hs⟩:=List.mem_flatMap.1 hv
   exact Qhi s v hs) (by unfold maxLen;omega) (by omega) hbase
 refine⟨v',w',h1,⟨λy hy=>?_,?_⟩,h3⟩
 ·rcases List.mem_append.1 hy with h|h
  ·exact h32 y h
  ·exact hx y h
 ·rw[zE,List.flatMap_append]
  exact h2
theorem Qk7 {w:World}{b o:Nat}{X:List Sd}(hx:∀x∈X,x.self.length=32)(hb:∀i (hi:i<X.length),w.rangeAt b (o+i*34) (Pp.cells X[i])):∀j u,(X.flatMap cellsF)[j]?=some u->w.cell? ((⟨b,o,none⟩:Addr).add j)=some u:=λj u hu=>by
 rw[Addr.add_lit]
 have hj:j<(X.flatMap cellsF).length:=by
  rcases Nat.lt_or_ge j (X.flatMap cellsF).length with h|h
  ·exact h
  ·rw[List.getElem?_eq_none h] at hu;cases hu
 rw[Qbl] at hj;have hq:j/34<X.length:=by omega
 have hr:j%34<34:=Nat.mod_lt _ (by decide)
 have h2:=hb (j/34) hq (j%34) u (by
  rw[<-Qgu (hx _ (List.getElem_mem hq)),<-Qiu X (j/34) hq (j%34) hr,show j/34*34+j%34=j by omega]
  exact hu)
 rw[show o+j/34*34+j%34=o+j by omega] at h2
 exact h2
theorem Qj4 (w:World)(ga oa:Nat)(A:List Sd)(hA:∀x∈A,x.self.length=32)(ha:∀i (hi:i<A.length),w.rangeAt ga (oa+i*34) (Pp.cells A[i]))(b o c:Nat)(X:List Sd)(hx:∀x∈X,x.self.length=32)(hb:∀i (hi:i<X.length),w.rangeAt b (o+i*34) (Pp.cells X[i]))(hX:0<X.length)(hl:A.length+X.length<1073741824):
  ∃v' w',(Builtin.append_ #[139,139] 139 #[.slice (some ⟨ga,oa,none⟩) A.length A.length,.slice (some ⟨b,o,none⟩) X.length c]).run Tryz.prog w=.ok v' w'/\OwnS w' w.heap.size v' (A++X)/\Kept w.heap.size w.heap.size w w':=by
 obtain⟨i,z,hi,hz,hzs,hs34,hby⟩:=Qd4;have hr:=run_append_grow (P:=Tryz.prog) (w:=w) 139 139 143 i z Tryz.underlying139 hi hz ⟨ga,oa,none⟩ A.length A.length (A.flatMap cellsF) (by rw[Qbl,hs34]) (Qk7 hA ha) ⟨b,o,none⟩ X.length c (X.flatMap cellsF) (by rw[Qbl,hs34]) (Qk7 hx hb) (by omega) (by omega) (growslice_fits (by omega) (by rw[hby];omega))
 have hge:=grownCap_ge w (A.length+X.length) A.length 143
 have hcm:grownCap w (A.length+X.length) A.length 143<=maxLen:=grownCap_le_maxLen w _ _ _ (by unfold maxLen;omega)
 have hfl:((A++X).flatMap cellsF).length=(A.length+X.length)*34:=by rw[Qbl,zE]
 refine⟨_,_,hr,⟨λy hy=>?_,hfl.trans (by rw[zE]),.inr ⟨w.heap.size,_,_,by rw[zE],zB _,heap_alloc_new w.drew _,by rw[zE];exact hge,hcm,?_,?_⟩⟩,⟨rfl,rfl,rfl,by simp,λk hk _=>Below.heap_alloc w.drew _ k hk⟩⟩
 ·rcases List.mem_append.1 hy with h|h
  ·exact hA y h
  ·exact hx y h
 ·simp only[Array.size_append,List.size_toArray,size_zeroCells,hzs,Qbl,<-Nat.add_mul]
  rw[Nat.add_sub_cancel' hge]
 ·simp only[Array.toList_append,List.append_assoc]
  rw[<-List.append_assoc,<-List.flatMap_append,zE,<-hfl];exact List.take_left
theorem Qmg (w:World)(ad:Option Addr)(n m:Nat)(hnm:n<=m)(q:Addr)(c:Nat):(Builtin.append_ #[139,139] 139 #[.slice ad n m,.slice (some q) 0 c]).run Tryz.prog w=.ok (.slice ad n m) w:=by
 obtain⟨i,z,hi,hz,hzs,hs34,hby⟩:=Qd4;have ht:=Tryz.underlying139
 have hf:=run_firstCells_some (P:=Tryz.prog) w i.size 0 q 0 c [] (by simp) (by simp)
 cases ad <;> simp[Builtin.append_,run_underlying ht,sizeOf,typeInfo,hi,Builtin.lenOf,hnm,hf,storeCells]
theorem Qvj (w:World)(ad:Option Addr)(n m:Nat)(hnm:n<=m)(c:Nat):(Builtin.append_ #[139,139] 139 #[.slice ad n m,.slice none 0 c]).run Tryz.prog w=.ok (.slice ad n m) w:=by
 obtain⟨i,z,hi,hz,hzs,hs34,hby⟩:=Qd4;have ht:=Tryz.underlying139
 have hf:=run_firstCells_none (P:=Tryz.prog) w i.size 0 0 c
 cases ad <;> simp[Builtin.append_,run_underlying ht,sizeOf,typeInfo,hi,Builtin.lenOf,hnm,hf,storeCells]
theorem Qoe (w:World)(A M B:List Sd)(hA:∀x∈A,x.self.length=32)(hM:∀x∈M,x.self.length=32)(hB:∀x∈B,x.self.length=32)(ga oa:Nat)(hga:ga<w.heap.size)(ha:∀i (hi:i<A.length),w.rangeAt ga (oa+i*34) (Pp.cells A[i]))
  (v:Value) (hv:Ss w v M) (gb ob cb:Nat) (hgb:gb<w.heap.size) (hb:∀i (hi:i<B.length),w.rangeAt gb (ob+i*34) (Pp.cells B[i])) (hl:A.length+M.length+B.length<1073741824) :
  ∃v1 w1,(Builtin.append_ #[139,139] 139 #[.slice (some ⟨ga,oa,none⟩) A.length A.length,v]).run Tryz.prog w=.ok v1 w1 /\
  ∃v2 w2,(Builtin.append_ #[139,139] 139 #[v1,.slice (some ⟨gb,ob,none⟩) B.length cb]).run Tryz.prog w1=.ok v2 w2/\Ss w2 v2 (A++M++B)/\Kept w.heap.size w.heap.size w w2/\∀k,v2.ownBlock=some k->k=ga\/w.heap.size<=k:=by
 obtain⟨ad,g,o,c,rfl,hm,_⟩:=hv
 rcases Nat.eq_zero_or_pos M.length with hM0|hM0
 ·obtain rfl:=List.length_eq_zero_iff.1 hM0
  refine⟨.slice (some ⟨ga,oa,none⟩) A.length A.length,w,?_,?_⟩
  ·cases ad with
   | none=>exact Qvj w _ _ _ (zB _) c
   | some q=>exact Qmg w _ _ _ (zB _) q c
  ·rcases Nat.eq_zero_or_pos B.length with hB0|hB0
   ·obtain rfl:=List.length_eq_zero_iff.1 hB0
    refine⟨_,w,Qmg w _ _ _ (zB _) _ cb,?_,Kept.refl _ _ _,λk hk=>.inl (by simpa [Value.ownBlock] using hk.symm)⟩
    simp only[List.append_nil];exact⟨some ⟨ga,oa,none⟩,ga,oa,A.length,rfl,λi hi=>⟨rfl,hga,ha i hi⟩,zB _⟩
   ·obtain⟨v2,w2,h1,h2,h3⟩:=Qj4 w ga oa A hA ha gb ob cb B hB hb hB0 (by omega)
    refine⟨v2,w2,h1,?_,h3,λk hk=>.inr (h2.2.lt k hk).1⟩
    rw[List.append_nil];exact h2.ss
 ·obtain⟨rfl,hgm,_⟩:=hm 0 hM0
  obtain⟨v1,w1,h1,h2,k1⟩:=Qj4 w ga oa A hA ha g o c M hM (λi hi=>(hm i hi).2.2) hM0 (by omega)
  obtain⟨v2,w2,h3,h4,h5⟩:=Qh6 w1 w.heap.size v1 (A++M) h2 k1.size gb ob cb B hB (λi hi=>Qaf k1 (hb i hi) hgb (zD hgb)) (by rw[zE];omega)
  refine⟨v1,w1,h1,v2,w2,h3,h4.ss,k1.trans ⟨h5.os,h5.tape,h5.output,h5.size,λk hk _=>h5.block k (zC hk k1.size) λe=>?_⟩,λk hk=>.inr (h4.2.lt k hk).1⟩
  have:=(h2.2.lt k e.symm).1
  omega
theorem Qiq {w:World}{g o rb:Nat}{x y:Value}{t:TypeId}{s:Sd}(hs:s.self.length=32)(hr:w.heap[rb]?=some (.cells #[x,y] t (0,0)))(h:w.rangeAt g o (Pp.cells s)):g≠rb:=by
 rintro rfl;have hl:(Pp.cells s).length=34:=by simp[Pp.cells,bZ,hs]
 have h1:=h 33 ((Pp.cells s)[33]'(by omega)) (List.getElem?_eq_getElem _)
 simp only[World.cell?,hr] at h1;have h2:(#[x,y]:Array Value)[o+33]?=none:=Array.getElem?_eq_none (by simp)
 rw[h2] at h1
 cases h1
theorem Qxv {w:World}{rb:Nat}{x y:Value}{t:TypeId}(hr:w.heap[rb]?=some (.cells #[x,y] t (0,0))){v:Value}{L:List Sd}(hL:∀s∈L,s.self.length=32)(h:Ss w v L)(j:Nat)(u:Value):Ss (w.setCell ⟨rb,j,none⟩ u) v L:=by
 obtain⟨ad,g,o,c,rfl,h1,h2⟩:=h;refine⟨ad,g,o,c,rfl,λi hi=>?_,h2⟩
 obtain⟨q1,q2,q3⟩:=h1 i hi;have hne:=Qiq (hL _ (List.getElem_mem hi)) hr q3;refine⟨q1,by simpa [World.setCell] using q2,λk u' hu=>?_⟩
 rw[World.cell?_setCell_far _ _ _ _ (by exact Ne.symm hne)]
 exact q3 k u' hu
def Near (w:World)(sl sl':Value):Prop:=∀k,sl'.ownBlock=some k->sl.ownBlock=some k\/w.heap.size<=k
theorem Near.refl (w:World)(sl:Value):Near w sl sl:=λ_ h=>.inl h
theorem Near.low {w w1:World}{sl sl':Value}(h:Near w1 sl sl')(hs:w.heap.size<=w1.heap.size):Near w sl sl':=λk hk=>(h k hk).imp id (λh2=>Nat.le_trans hs h2)
theorem Qlr (bits:Nat)(A B M:List Sd)(s:Sd)(hA:∀x∈A,x.self.length=32)(hM:∀x∈M,x.self.length=32)(hB:∀x∈B,x.self.length=32)(rb:Nat)(sl v:Value)(w:World)(hR:RowIs w rb bits sl (A++s::B))(hv:Ss w v M)(hl:A.length+M.length+B.length<1073741824):Calls Tryz.prog 79 #[.pointer (some ⟨rb,0,none⟩),.int .i64 (A.length:Int),v] w λe w'=>e=.returned (.tuple #[])/\∃sl',RowIs w' rb bits sl' (A++M++B)/\Kept w.heap.size rb w w'/\Near w sl sl':=by
 obtain⟨hrow,ad,g,o,c,rfl,h1,hc⟩:=hR;have hn:(A++s::B).length=A.length+B.length+1:=by simp;omega
 obtain⟨rfl,hg,hgx⟩:=h1 A.length (by omega)
 clear hgx
 have hra:∀i (hi:i<A.length),w.rangeAt g (o+i*34) (Pp.cells A[i]):=λi hi=>by
  have:=(h1 i (by omega)).2.2
  rwa[List.getElem_append_left hi] at this
 have hrb:∀i (hi:i<B.length),w.rangeAt g (o+(A.length+1)*34+i*34) (Pp.cells B[i]):=λi hi=>by
  have:=(h1 (A.length+1+i) (by omega)).2.2
  rw[List.getElem_append_right (by omega)] at this
  simp only[show A.length+1+i-A.length=i+1 by omega,List.getElem_cons_succ] at this
  rwa[show o+(A.length+1)*34+i*34=o+(A.length+1+i)*34 by omega]
 have hob:∃ob,(if c=A.length+1 then some (⟨g,o,none⟩:Addr) else some ⟨g,o+(A.length+1)*34,none⟩)=some ⟨g,ob,none⟩/\∀i (hi:i<B.length),w.rangeAt g (ob+i*34) (Pp.cells B[i]):=by
  by_cases h:c=A.length+1
  ·exact⟨o,by rw[zG h],λi hi=>absurd hi (by omega)⟩
  ·exact⟨_,by rw[if_neg h],hrb⟩
 obtain⟨ob,hob,hrc⟩:=hob;have hta:=Qoe w A M B hA hM hB g o hg hra v hv g ob (c-(A.length+1)) hg hrc hl;obtain⟨v1,w1,r1,v2,w2,r2,hs2,k2,hnr⟩:=hta;have HNR:=hid (show Near w (.slice (some ⟨g,o,none⟩) (A++s::B).length c) v2 from λk hk=>(hnr k hk).imp (λe=>by rw[e];rfl) id)
 clear hnr;obtain⟨mad,mg,mo,mc,rfl,hq1,hq2⟩:=hv;clear hq1 hq2;rw[hn] at hrow hc HNR;clear h1 hra hrb hn hrc
 have hv2:∃ad2 n2 c2,v2=.slice ad2 n2 c2:=by
  obtain⟨ad2,g2,o2,c2,h,_⟩:=hs2;exact⟨_,_,_,h⟩
 obtain⟨ad2,n2,c2,rfl⟩:=hv2
 have hall:∀s∈A++M++B,s.self.length=32:=λx hx=>by
  rcases List.mem_append.1 hx with h|h
  ·rcases List.mem_append.1 h with h|h
   ·exact hA x h
   ·exact hM x h
  ·exact hB x h
 have HAL:=hid hall;clear hall;have HS2:=hid hs2;have HK2:=hid k2;clear hs2 k2;generalize hal:A.length=a at *;generalize hbl:B.length=b at *;generalize M.length=m at *
 have hw1:IntKind.i64.wrap ((a:Int)+1)=((a+1:Nat):Int):=by
  rw[IntKind.wrap_i64]
  omega
 have c0:=Qab hrow;have RR1:=hid r1;have RR2:=hid r2;have HROW:=hid hrow;have HW1:=hid hw1;have HOB:=hid hob;have hac:a<=c:=by omega
 have hab:a+1<=a+b+1:=by omega
 clear r1 r2 hrow hal hbl hA hM hB hw1 hg hl hob
 go_enter Tryz.func79,Tryz.ntmps79
 go_upto_region 0 with fail
 refine zA ?_;iterate 8(refine wW λK hK=>?_;go_simp;apply hK;clear hK K)
 go_upto_region 1 with fail
 refine zA ?_;iterate 5(refine wW λK hK=>?_;go_simp;apply hK;clear hK K)
 refine wW λK hK=>?_;go_simp;rw[HW1.out];apply hK;clear hK K;refine wW λK hK=>?_;go_simp;rw[zG (by omega),HOB.out]
 go_simp;apply hK;clear hK K;refine wW λK hK=>?_;go_simp;apply hK;clear hK K;clear c0 hac hab;have hr2:w2.heap[rb]?=some (.cells #[.int .i64 (bits:Int),.slice (some ⟨g,o,none⟩) (a+b+1) c] 145 (0,0)):=(HK2.out.block rb (zF HROW.out) (zD (zF HROW.out))).trans HROW.out
 have c1:=Qab hr2;have f1:w2.frozen? ⟨rb,1,none⟩=false:=by simp[World.frozen?,hr2]
 have HR2:=hid hr2;clear hr2
 go_upto_region 2 with fail
 refine zA ?_;iterate 3(refine wW λK hK=>?_;go_simp;apply hK;clear hK K)
 refine Qal rfl _ _ 139 139 139 rfl rfl (.slice (some ⟨g,o,none⟩) a a) (.slice mad m mc) rfl rfl RR1.out ?_
 simp only[Act.put,sA,sB,sC];refine wW λK hK=>?_;go_simp;apply hK;clear hK K;refine Qal rfl _ _ 139 139 139 rfl rfl v1 (.slice (some ⟨g,ob,none⟩) b (c-(a+1))) rfl rfl RR2.out ?_
 simp only[Act.put,sA,sB,sC];iterate 3(refine wW λK hK=>?_;go_simp;apply hK;clear hK K)
 go_wp2
 go_end0
 refine⟨rfl,.slice ad2 n2 c2,⟨?_,Qxv HR2.out HAL.out HS2.out 1 _⟩,?_,HNR.out⟩
 ·have h:=HR2.out
  simp only[World.setCell];rw[Array.getElem?_modify];simp[h]
 ·refine⟨HK2.out.os,HK2.out.tape,HK2.out.output,by simpa [World.setCell] using HK2.out.size,λk hk hkb=>?_⟩
  simp only[World.setCell];rw[Array.getElem?_modify,if_neg (Ne.symm hkb)];exact HK2.out.block k hk (zD hk)
end Go.Proofs.YtnlbgggnpoeleaaGreatDoor
