/-
 TreeGrownMem; TreeGrown: several texts in one.
-/
import Derived.Test.YtlpabcnhcbgfjaaHO
import Derived.Test.YtlpabcnhcbgfjaaHM
import Derived.Test.YtlpabcnhcbgfjaaTreeSame
set_option maxRecDepth 100000
set_option maxHeartbeats 12800000
namespace Go.Proofs.Ytlpabcnhcbgfjaa
open Go.RowKit Go.Lib
open List renaming setIfInBounds_toArray → sA, set_cons_zero → sB, set_cons_succ → sC
open BigFrame renaming wpList_want → wQ
theorem yieldsIf_buildN9 {P:Program}{ops:Array Oper}{S:World→Prop}{op:Oper}{a:Act}(hw:Region.wanted op (yielded ops a.tmps) = true)(t:TypeId)(xs:Array (Nat × Operand))(ho:op.op = .build t xs)(vs:Array (Nat × Value))(hv:(xs.map fun(i,x)=>(i,a.eval x)) = vs)(u:Value)(hr:∀ w,(Instr.build t vs).run P w = .ok u w):YieldsIf P ops S op u a:=by
 subst hv
 exact .inl ⟨hw,fun w _=>by
  unfold execOp
  simp only [ho,Sem.run_bind,hr,Result.andThen_ok,Sem.run_pure]⟩
theorem alloc_act9 (w:World):(Instr.alloc 46 true (.tuple #[])).run Try.prog w = .ok (.pointer (some ⟨w.heap.size,0,none⟩)) (w.alloc (.cells #[.int .u8 0,.int .i64 0,.int .i64 0,.int .u8 0] 46)):=by kernel_rfl
def grownLeaf (n:Int)(k:UInt8):Lf:=⟨n,k :: 1 :: List.replicate 30 0,Tt.z32,Tt.z32⟩
theorem build_grownLeaf (n:Int)(k:UInt8)(w:World):(Instr.build 36 #[(0,.int .i64 n),(1,.agg (bcells (k :: 1 :: List.replicate 30 0)).toArray)]).run Try.prog w = .ok (.agg (grownLeaf n k).cells.toArray) w:=by kernel_rfl
theorem Ac8.all9 (a:Ac8):a.cells.toArray.all (·.oneCell') = true:=by simp [Ac8.cells,Value.oneCell']
structure Sg8 (w0 w:World) (rb qb xb ub:Nat) (VQ DX VU:Array Value):Prop where
 k:Kept w0.heap.size w0.heap.size w0 w
 r:w.heap[rb]? = some (.cells #[.slice none 0 0,.slice none 0 0] 27 (0,0))
 q:w.heap[qb]? = some (.cells VQ 27 (0,0))
 x:w.heap[xb]? = some (.cells DX 46 (0,0))
 u:w.heap[ub]? = some (.cells VU 27 (0,0))
 o:w0.heap.size≤rb∧rb < qb∧qb < xb∧xb < ub
section
variable {w0 w v:World} {rb qb xb ub:Nat} {VQ DX VU:Array Value}
theorem Sg8.kept (h:Sg8 w0 w rb qb xb ub VQ DX VU)(k:Kept w.heap.size w.heap.size w v):Sg8 w0 v rb qb xb ub VQ DX VU:=
 ⟨h.k.onto k,row_kept h.r k,row_kept h.q k,row_kept h.x k,row_kept h.u k,h.o⟩
theorem Sg8.grow (h:Sg8 w0 w rb qb xb ub VQ DX VU){b:Nat}(g:w.grownBy v (some b))(hb:w0.heap.size≤b):Kept w0.heap.size w0.heap.size w0 v∧(∀ c,c≠b→∀ {o:Obj},w.heap[c]? = some o→v.heap[c]? = some o):=
 ⟨h.k.grown g h.k.size (fun q hq=>by cases hq; exact hb),fun c hc _ hh=>(g.block c (lt_of_block hh) (fun e=>hc (Option.some.inj e))).trans hh⟩
theorem Sg8.setU (h:Sg8 w0 w rb qb xb ub VQ DX VU)(V:Array Value):Sg8 w0 (w.setRow ub V) rb qb xb ub VQ DX V:=by
 obtain⟨o0,o1,o2,o3⟩:=h.o;obtain⟨k,e⟩:=h.grow (grown_setRow w ub V) (by omega)
 exact⟨k,e rb (by omega) h.r,e qb (by omega) h.q,e xb (by omega) h.x,setRow_heap w ub _ V _ _ h.u,h.o⟩
theorem Sg8.setQ (h:Sg8 w0 w rb qb xb ub VQ DX VU)(V:Array Value):Sg8 w0 (w.setRow qb V) rb qb xb ub V DX VU:=by
 obtain⟨o0,o1,o2,o3⟩:=h.o;obtain⟨k,e⟩:=h.grow (grown_setRow w qb V) (by omega)
 exact⟨k,e rb (by omega) h.r,setRow_heap w qb _ V _ _ h.q,e xb (by omega) h.x,e ub (by omega) h.u,h.o⟩
end
theorem Tt.right_loose669 {L:List Lf}{P:List Pr}(h:Tt.right L P = true):∀ p∈P,p.loose.length≤1000:=fun p hp=>by
 obtain⟨h1,_,h3⟩:=Tt.right_parts h;exact Nat.le_trans (Tt.parents_loose h1 P 0 h3 p hp) (by decide)
theorem mod_u89 (x:UInt8):∃ y:Int,IntKind.u8.wrap ((x.toNat:Int).tmod 4) = y∧(x.toNat:Int).tmod 4 = y∧(y = 0∨y = 1∨y = 2∨y = 3):=by
 have h1:(x.toNat:Int).tmod 4 = ((x.toNat % 4:Nat):Int):=by
  rw [Int.tmod_eq_emod_of_nonneg (Int.natCast_nonneg _)]
  rfl
 refine⟨((x.toNat % 4:Nat):Int),?_,h1,by omega⟩
 rw [h1];show((x.toNat % 4:Nat):Int) % 256 = _;exact Int.emod_eq_of_lt (Int.natCast_nonneg _) (by omega)
theorem grown_calls8 (v:Value)(A:List Ac8)(hAl:A.length≤100)(w:World)(hA:Acs8 w v A):
  Calls Try.prog 5 #[v] w fun e w'=>∃ lv pv,e = .returned (.agg #[lv,pv])∧Kept w.heap.size w.heap.size w w'∧∃ L P,Tt.right L P = true∧∃ SL,Mine (fun k=>k < w.heap.size) w' lv pv L P SL:=by
 obtain⟨aad,ac,ag,ao,rfl,hel⟩:=hA;obtain⟨an,han⟩:∃ an,an = A.length:=⟨_,rfl⟩;rw [← han];have HA9:=hid (show(an:Int)≤100 by omega)
 have HEL:=hid hel;have HAN:=hid han;clear hel han hAl;have k1:=kA w (.cells #[.slice none 0 0,.slice none 0 0] 27)
 have r1:=heap_new w (.cells #[.slice none 0 0,.slice none 0 0] 27)
 have m1:=Mine.empty (fun k=>k < w.heap.size∨k = w.heap.size) (w.alloc (.cells #[.slice none 0 0,.slice none 0 0] 27)) (fun k hk=>by simp; omega)
 go_enter Try.func5,Try.ntmps5
 go_upto_region 1 with fail
 generalize w.alloc (.cells #[.slice none 0 0,.slice none 0 0] 27) = w1 at k1 r1 m1 ⊢
 obtain⟨rb,hrb⟩:∃ x,x = w.heap.size:=⟨_,rfl⟩;have HRB:=hid (show w.heap.size≤rb by omega)
 rw [← hrb] at r1
 (try rw [← hrb])
 have M1:=hid (m1.mono (B':=fun k=>k < w.heap.size∨k = rb) (fun k h=>h.imp (fun a=>a) (fun e=>by rw [e,hrb])))
 have K1:=hid k1;have R1:=hid r1;clear k1 r1 m1 hrb;refine wp_region_lit ?_;refine @wpL_build0 _ _ _ _ _ _ _ ?_ 27 rfl _ (build_tree0 _) ?_;kernel_rfl
 simp only [Act.put,sA,sB,sC];refine @wpL_alloc _ _ _ _ _ _ _ _ ?_ 27 rfl _ (alloc_tree _) ?_;kernel_rfl
 simp only [Act.put,sA,sB,sC];refine wpList_store_row rfl 27 _ _ rfl (w1.heap.size) #[.slice none 0 0,.slice none 0 0] rfl rfl 27 #[.slice none 0 0,.slice none 0 0] (heap_new _ _) (treeInfo) (rfl) (tree_all _ _ _ _ _ _) ?_
 simp only [Act.put];rw [World.setRow_alloc_new];have k3:=kA w1 (.cells #[.slice none 0 0,.slice none 0 0] 27)
 have q3:=heap_new w1 (.cells #[.slice none 0 0,.slice none 0 0] 27)
 have K3:=hid (K1.out.onto k3);have R3:=hid (row_kept R1.out k3);have m3:=M1.out.box (.cells #[.slice none 0 0,.slice none 0 0] 27)
 have hq3:rb < w1.heap.size:=lt_of_block R1.out;generalize w1.alloc (.cells #[.slice none 0 0,.slice none 0 0] 27) = w3 at q3 K3 R3 m3 ⊢
 obtain⟨qb,hqb⟩:∃ qb,qb = w1.heap.size:=⟨_,rfl⟩;rw [← hqb] at q3 hq3 m3
 (try rw [← hqb])
 have M3:=hid m3;have Q3:=hid q3;have HQ:=hid hq3;clear k3 q3 hq3 hqb m3 K1 R1 M1;go_wp2
 go_loopw [4] (fun s4 wr=>∃ i:Nat,s4 = .int .i64 (i:Int)∧Hid (i≤an)∧Hid (Kept w.heap.size w.heap.size w wr)∧Hid (wr.heap[rb]? = some (.cells #[.slice none 0 0,.slice none 0 0] 27 (0,0)))∧∃ lad ln lc pad pn pc,Hid (wr.heap[qb]? = some (.cells #[.slice lad ln lc,.slice pad pn pc] 27 (0,0)))∧∃ L P SL,Hid (Tt.right L P = true)∧Hid (Mine (fun k=>(k < w.heap.size∨k = rb)∨k = qb) wr (.slice lad ln lc) (.slice pad pn pc) L P SL)) (fun s4 _=>an - (RowKit.intOf s4).toNat)
 case atStart=>exact⟨0,rfl,hid (Nat.zero_le _),K3,R3,_,_,_,_,_,_,Q3,[],[],[],hid (by decide),M3⟩
 case round=>
  obtain⟨i,rfl,hi,HK,HRR,lad,ln,lc,pad,pn,pc,HQR,L,P,SL,HR,HM⟩:=hrel;clear K3 M3 Q3 R3;have han:=HA9.out
  by_cases hlt:i < an
  ·have hlti:(i:Int) < (an:Int):=by omega
   have hi0:¬ (i:Int) < 0:=by omega
   have hiA:i < A.length:=by rw [← HAN.out]; exact hlt
   obtain⟨had,hag,har⟩:=HEL.out i hiA;obtain⟨a9,ha9⟩:∃ x,x = A[i]:=⟨_,rfl⟩;rw [← ha9] at har;obtain⟨DX,hDX⟩:∃ D,D = a9.cells.toArray:=⟨_,rfl⟩;have HLT:=hid hlt;have HXJ:=hid (show(Try.prog.info? 46).map (·.size) = some a9.cells.length from actInfo8)
   have HXI:=hid (show(Try.prog.info? 46).map (·.size) = some DX.size by rw [hDX]; exact actInfo8)
   have HXZ:=hid (show(#[.int .u8 0,.int .i64 0,.int .i64 0,.int .u8 0]:Array Value).size = DX.size by rw [hDX]; rfl)
   have HXA:=hid (show DX.all (·.oneCell') = true by rw [hDX]; exact a9.all9)
   have HLX:=hid (run_loadVar_mid wr ag (ao + i * 4) 46 a9.cells _ (rangeAt_kept HK.out har hag (Nat.ne_of_lt hag)) Try.underlying46 rfl HXJ.out)
   rw [← hDX] at HLX;obtain⟨kdi,hkd,hkdb,hkd4⟩:=mod_u89 a9.kind;obtain⟨kd,hkdn⟩:∃ x:Int,x = (a9.kind.toNat:Int):=⟨_,rfl⟩;obtain⟨kz,hkz⟩:∃ x:Int,x = (a9.key.toNat:Int):=⟨_,rfl⟩;obtain⟨nm,hnm⟩:∃ x,x = a9.name:=⟨_,rfl⟩;rw [← hkdn] at hkd hkdb;have HX0:=hid (show DX[0]? = some (.int .u8 kd) by rw [hDX,hkdn]; rfl)
   have HX1:=hid (show DX[1]? = some (.int .i64 nm) by rw [hDX,hnm]; rfl)
   have HX3:=hid (show DX[3]? = some (.int .u8 kz) by rw [hDX,hkz]; rfl)
   have HM4:=hid hkd;have HM4b:=hid hkdb;have HDI:=hid hkd4;obtain⟨h64,hpe,_⟩:=Tt.right_parts HR.out;have HPL:=hid (Tt.right_loose669 HR.out);obtain⟨_,_,hsh⟩:=HM.out.lvs.shape;injection hsh with hq1 hln hq2
   clear hq1 hq2;have HPC:=hid (fun(u:World)=>actplace_calls lad pad ln lc pn pc a9 (by rw [hln]; omega) u)
   rw [← hDX] at HPC;have HBK:=hid (fun u=>build_key0 a9.key u)
   rw [show Tt.keyN a9.key 0 = a9.key :: List.replicate 31 0 from rfl,← hkz] at HBK;have hpub:(a9.key :: List.replicate 31 (0:UInt8)).length = 32:=rfl;obtain⟨pub,hpu⟩:∃ x,x = a9.key :: List.replicate 31 (0:UInt8):=⟨_,rfl⟩;rw [← hpu] at HBK hpub;obtain⟨DP,hDP⟩:∃ D,D = (bcells pub).toArray:=⟨_,rfl⟩;rw [← hDP] at HBK;have HB1:=hid (fun u=>build_keyN a9.key 1 u)
   rw [← hkz] at HB1;have hlo:(grownLeaf nm a9.key).Ok:=⟨rfl,rfl,rfl⟩;have HBL:=hid (fun u=>build_grownLeaf nm a9.key u)
   obtain⟨d1,hd1⟩:∃ x,x = (bcells (a9.key :: 1 :: List.replicate 30 0)).toArray:=⟨_,rfl⟩;rw [← hd1] at HBL HB1;obtain⟨l,hl⟩:∃ x,x = grownLeaf nm a9.key:=⟨_,rfl⟩;rw [← hl] at HBL hlo;obtain⟨DL,hDL⟩:∃ D,D = l.cells.toArray:=⟨_,rfl⟩;rw [← hDL] at HBL;have HA:=hid (fun(B:Nat→Prop) (u:World) (m:Mine B u (.slice lad ln lc) (.slice pad pn pc) L P SL)=>refadd_any _ _ L P l hlo u m.lvs m.pts HPL.out HR.out)
   have HB:=hid (fun(x:Int) (B:Nat→Prop) (u:World) (m:Mine B u (.slice lad ln lc) (.slice pad pn pc) L P SL)=>refrenew_any _ _ L P x u m.lvs m.pts HPL.out HR.out pub hpub)
   have HC:=hid (fun(x:Int) (B:Nat→Prop) (u:World) (m:Mine B u (.slice lad ln lc) (.slice pad pn pc) L P SL)=>refremove_any _ _ L P x u m.lvs m.pts HPL.out HR.out)
   have HD:=hid (fun(x:Int) (ks:List (List UInt8)) (B:Nat→Prop) (u:World) (m:Mine B u (.slice lad ln lc) (.slice pad pn pc) L P SL) (kv:Value) (hK:Hs u kv ks)=>refpath_any _ _ L P x pub hpub kv ks u m.lvs m.pts HPL.out HR.out hK)
   have HKC:=hid (fun(x:Int) (m:Nat) (hm:(Bo.Direct (ln:Int) x).length = m) (u:World)=>keys_calls8 lad pad ln lc pn pc m a9.key x hm u)
   have HLEN:=hid (fun(x:Int)=>(⟨_,rfl⟩:∃ m,m = (Bo.Direct (ln:Int) x).length))
   rw [← hDL] at HA;rw [← hDP] at HB HD;rw [← hkz] at HKC;have NA:=hid (fun h:Tt.addErr L l.name = 0=>Tt.add_right HR.out l h)
   have NB:=hid (fun(x:Int) (h:Tt.noneErr L x = 0)=>Tt.renew_right HR.out h pub)
   have NC:=hid (fun(x:Int) (h:Tt.noneErr L x = 0)=>Tt.remove_right HR.out h)
   have ND:=hid (fun(x:Int) (ks:List (List UInt8)) (h:Tt.pathErr L x ks.length = 0)=>Tt.path_right HR.out pub ks h)
   subst had;clear hlt hi hiA hag har ha9 hDX hkd hkdb hkd4 hkdn hkz hnm h64 hpe hln hpu hDP hlo hl hDL hd1 hpub
   go_upto_region 5 with fail
   refine wp_region_lit ?_;iterate 3 (refine @wQ _ _ _ _ _ _ _ ?_ ?_;kernel_rfl;intro K hK;go_simp;refine hK _ _ ?_;clear hK K)
   refine @wpList_load_known _ _ _ _ _ _ _ ?_ 46 (.tmp 18) rfl (ag) (ao + i * 4) rfl (.agg DX) (HLX.out) ?_;kernel_rfl
   simp only [Act.put,sA,sB,sC];refine @wpL_alloc _ _ _ _ _ _ _ _ ?_ 46 rfl _ (alloc_act9 _) ?_;kernel_rfl
   simp only [Act.put,sA,sB,sC];refine wpList_store_row rfl 46 _ _ rfl (wr.heap.size) DX rfl rfl 46 #[.int .u8 0,.int .i64 0,.int .i64 0,.int .u8 0] (heap_new _ _) (HXI.out) (HXZ.out) (HXA.out) ?_
   simp only [Act.put];rw [World.setRow_alloc_new];have k5:=kA wr (.cells DX 46)
   have x5:=heap_new wr (.cells DX 46)
   have K5:=hid (HK.out.onto k5);have Q5:=hid (row_kept HQR.out k5);have I5:=hid (row_kept HRR.out k5);have M5:=hid (HM.out.kept k5);have hx5:qb < wr.heap.size:=lt_of_block HQR.out;generalize wr.alloc (.cells DX 46) = w5 at x5 K5 Q5 I5 M5 ⊢
   obtain⟨xb,hxb⟩:∃ x,x = wr.heap.size:=⟨_,rfl⟩;rw [← hxb] at x5 hx5
   (try rw [← hxb])
   have X5:=hid x5;have HX:=hid hx5;clear k5 x5 hx5 hxb HK HQR HRR HM HLX
   go_upto_region 6 with fail
   refine wp_region_lit ?_;refine @wpList_load_known _ _ _ _ _ _ _ ?_ 27 (.tmp 3) rfl (qb) (0) rfl (.agg #[.slice lad ln lc,.slice pad pn pc]) (run_loadVar_row w5 qb 27 27 _ (0,0) _ Q5.out Try.underlying27 rfl treeInfo) ?_;kernel_rfl
   simp only [Act.put,sA,sB,sC];refine @wpList_load_known _ _ _ _ _ _ _ ?_ 46 (.tmp 5) rfl (xb) (0) rfl (.agg DX) (run_loadVar_row w5 xb 46 46 _ (0,0) _ X5.out Try.underlying46 rfl HXI.out) ?_;kernel_rfl
   simp only [Act.put,sA,sB,sC];refine @wQ _ _ _ _ _ _ _ ?_ ?_;kernel_rfl;intro K hK;go_simp;go_at_call 12
   refine(HPC.out _).mono ?_;rintro e w6 ⟨p,_,rfl,k6⟩;have K6:=hid (K5.out.onto k6);have Q6:=hid (row_kept Q5.out k6);have I6:=hid (row_kept I5.out k6);have X6:=hid (row_kept X5.out k6);have M6:=hid (M5.out.kept k6);obtain⟨pi,hpi⟩:∃ x:Int,x = (p:Int):=⟨_,rfl⟩;rw [← hpi];clear k6 hpi K5 Q5 I5 X5 M5 HPC;refine hK _ _ ?_;clear hK K;refine @wQ _ _ _ _ _ _ _ ?_ ?_;kernel_rfl;intro K hK;go_simp;refine hK _ _ ?_;clear hK K
   go_upto_region 7 with fail
   refine wp_region_lit ?_;refine @wpList_load_known _ _ _ _ _ _ _ ?_ 27 (.tmp 3) rfl (qb) (0) rfl (.agg #[.slice lad ln lc,.slice pad pn pc]) (run_loadVar_row w6 qb 27 27 _ (0,0) _ Q6.out Try.underlying27 rfl treeInfo) ?_;kernel_rfl
   simp only [Act.put,sA,sB,sC];refine @wpL_alloc _ _ _ _ _ _ _ _ ?_ 27 rfl _ (alloc_tree _) ?_;kernel_rfl
   simp only [Act.put,sA,sB,sC];refine wpList_store_row rfl 27 _ _ rfl (w6.heap.size) #[.slice lad ln lc,.slice pad pn pc] rfl rfl 27 #[.slice none 0 0,.slice none 0 0] (heap_new _ _) (treeInfo) (rfl) (tree_all _ _ _ _ _ _) ?_
   simp only [Act.put];rw [World.setRow_alloc_new];have k7:=kA w6 (.cells #[.slice lad ln lc,.slice pad pn pc] 27)
   have u7:=heap_new w6 (.cells #[.slice lad ln lc,.slice pad pn pc] 27)
   have m7:=M6.out.box (.cells #[.slice lad ln lc,.slice pad pn pc] 27)
   have sn7:∀ ub,ub = w6.heap.size→Sg8 w (w6.alloc (.cells #[.slice lad ln lc,.slice pad pn pc] 27)) rb qb xb ub #[.slice lad ln lc,.slice pad pn pc] DX #[.slice lad ln lc,.slice pad pn pc]:=fun ub hub=>
    ⟨K6.out.onto k7,row_kept I6.out k7,row_kept Q6.out k7,row_kept X6.out k7,by rw [hub]; exact u7,HRB.out,HQ.out,HX.out,by rw [hub]; exact lt_of_block X6.out⟩
   obtain⟨ub,hub⟩:∃ x,x = w6.heap.size:=⟨_,rfl⟩;have S7:=hid (sn7 ub hub);rw [← hub] at m7;have MT:=hid m7;generalize w6.alloc (.cells #[.slice lad ln lc,.slice pad pn pc] 27) = w7 at S7 MT ⊢
   (try rw [← hub])
   clear k7 u7 m7 sn7 hub K6 Q6 I6 X6 M6;refine @wQ _ _ _ _ _ _ _ ?_ ?_;kernel_rfl;intro K hK;go_simp;refine hK _ _ ?_;clear hK K
   go_upto_region 8 with fail
   refine wp_region_lit ?_;refine @wQ _ _ _ _ _ _ _ ?_ ?_;kernel_rfl;intro K hK;go_simp;refine hK _ _ ?_;clear hK K;refine @wpList_load_known _ _ _ _ _ _ _ ?_ 5 (.tmp 24) rfl (xb) (0) rfl (.int .u8 kd) (load_u8_8 ((cell_of_row _ xb 0 _ _ _ S7.out.x).trans HX0.out)) ?_;kernel_rfl
   simp only [Act.put,sA,sB,sC];refine @wQ _ _ _ _ _ _ _ ?_ ?_;kernel_rfl;intro K hK;go_simp
   (try rw [HM4.out])
   (try rw [HM4b.out])
   refine hK _ _ ?_;clear hK K;have HLB:=hid (fun(u:World) (VU:Array Value) (s:Sg8 w u rb qb xb ub #[.slice lad ln lc,.slice pad pn pc] DX VU)=>run_loadVar_row u qb 27 27 _ (0,0) _ s.q Try.underlying27 rfl treeInfo)
   have HLN1:=hid (fun(u:World) (VU:Array Value) (s:Sg8 w u rb qb xb ub #[.slice lad ln lc,.slice pad pn pc] DX VU)=>load_int ((cell_of_row u xb 1 _ _ _ s.x).trans HX1.out))
   have HLK:=hid (fun(u:World) (VU:Array Value) (s:Sg8 w u rb qb xb ub #[.slice lad ln lc,.slice pad pn pc] DX VU)=>load_u8_8 ((cell_of_row u xb 3 _ _ _ s.x).trans HX3.out))
   go_upto_block 2 with fail
   go_cut [8] (fun s8 wx=>∃ er:Int,s8 = .int .i64 er∧∃ lad8 n8 lc8 pad8 q8 pc8,Hid (Sg8 w wx rb qb xb ub #[.slice lad ln lc,.slice pad pn pc] DX #[.slice lad8 n8 lc8,.slice pad8 q8 pc8])∧Hid (Mine (fun k=>(k < w.heap.size∨k = rb)∨k = qb) wx (.slice lad ln lc) (.slice pad pn pc) L P SL)∧∃ L9 P9 SL9,Hid (er = 0→Tt.right L9 P9 = true)∧Hid (Mine (fun k=>(k < w.heap.size∨k = rb)∨k = qb) wx (.slice lad8 n8 lc8) (.slice pad8 q8 pc8) L9 P9 SL9))
   case first=>
    rcases HDI.out with h0 | h0 | h0 | h0
    ·have hk0:(kdi == 0) = true:=by rw [h0]; rfl
     clear h0;obtain⟨L9,hL9⟩:∃ x,x = Tt.putL L l:=⟨_,rfl⟩;obtain⟨P9,hP9⟩:∃ x,x = Tt.putP L P l.name:=⟨_,rfl⟩;obtain⟨er,her⟩:∃ x,x = Tt.addErr L l.name:=⟨_,rfl⟩;have H1:=hid (HA.out);have NX:=hid (NA.out);rw [← hL9,← hP9,← her] at H1;rw [← hL9,← hP9,← her] at NX;clear hL9 hP9 her HA HB HC HD NA NB NC ND;have S7X:=S7.out
     go_upto_region 10 with fail
     refine wp_region_lit ?_;refine @wpList_load_known _ _ _ _ _ _ _ ?_ 27 (.tmp 3) rfl (qb) (0) rfl (.agg #[.slice lad ln lc,.slice pad pn pc]) (HLB.out _ _ S7.out) ?_;kernel_rfl
     simp only [Act.put,sA,sB,sC];refine @wQ _ _ _ _ _ _ _ ?_ ?_;kernel_rfl;intro K hK;go_simp;refine hK _ _ ?_;clear hK K;refine @wpList_load_known _ _ _ _ _ _ _ ?_ 3 (.tmp 31) rfl (xb) (1) rfl (.int .i64 nm) (HLN1.out _ _ S7.out) ?_;kernel_rfl
     simp only [Act.put,sA,sB,sC];refine @wQ _ _ _ _ _ _ _ ?_ ?_;kernel_rfl;intro K hK;go_simp;refine hK _ _ ?_;clear hK K;refine @wpList_load_known _ _ _ _ _ _ _ ?_ 5 (.tmp 33) rfl (xb) (3) rfl (.int .u8 kz) (HLK.out _ _ S7.out) ?_;kernel_rfl
     simp only [Act.put,sA,sB,sC];refine @wpL_buildN _ _ _ _ _ _ _ ?_ 34 _ rfl #[(0,.int .u8 kz),(1,.int .u8 1)] (by simp only [List.map_toArray,List.map_cons,List.map_nil]; rfl) _ (HB1.out _) ?_;kernel_rfl
     simp only [Act.put,sA,sB,sC];refine @wpL_buildN _ _ _ _ _ _ _ ?_ 36 _ rfl #[(0,.int .i64 nm),(1,.agg d1)] (by simp only [List.map_toArray,List.map_cons,List.map_nil]; rfl) _ (HBL.out _) ?_;kernel_rfl
     simp only [Act.put,sA,sB,sC];refine @wQ _ _ _ _ _ _ _ ?_ ?_;kernel_rfl;intro K hK;go_simp;go_at_call 13
     refine(H1.out _ w7 MT.out).mono ?_;rintro e w8 ⟨lv8,pv8,rfl,k8,SL8,m8⟩;obtain⟨lad8,lc8,rfl⟩:=m8.lvs.shape;obtain⟨pad8,pc8,rfl⟩:=m8.pts.shape;obtain⟨n8,hn8⟩:∃ n8,n8 = L9.length:=⟨_,rfl⟩;obtain⟨q8,hq8⟩:∃ q8,q8 = P9.length:=⟨_,rfl⟩;rw [← hn8,← hq8] at m8 ⊢;clear hn8 hq8;have S8:=hid (S7.out.kept k8);have MT8:=hid (MT.out.kept k8);have MA8:=hid m8;have HUB:=hid (show ub < w7.heap.size∧∀ k,((k < w.heap.size∨k = rb)∨k = qb)→k < w7.heap.size from⟨lt_of_block S7X.u,fun k h=>(MT.out.mono (B':=(fun k=>(k < w.heap.size∨k = rb)∨k = qb)) (fun _ a=>.inl a)).bnd k h |> fun a=>Nat.lt_of_lt_of_le a (Nat.le_refl _)⟩)
     clear k8 m8 S7X;refine hK _ _ ?_;clear hK K;iterate 4 (refine @wQ _ _ _ _ _ _ _ ?_ ?_;kernel_rfl;intro K hK;go_simp;refine hK _ _ ?_;clear hK K)
     refine wpList_store_row rfl 27 _ _ rfl (ub) #[.slice lad8 n8 lc8,.slice pad8 q8 pc8] rfl rfl 27 #[.slice lad ln lc,.slice pad pn pc] S8.out.u treeInfo rfl (tree_all _ _ _ _ _ _) ?_
     simp only [Act.put];have g9:=grown_setRow w8 ub #[.slice lad8 n8 lc8,.slice pad8 q8 pc8];have S9:=hid (S8.out.setU #[.slice lad8 n8 lc8,.slice pad8 q8 pc8]);have MT9:=hid (MT8.out.aside (b:=ub) (.inr rfl) g9);have MA9:=hid (MA8.out.aside (b:=ub) HUB.out.1 g9);generalize w8.setRow ub #[.slice lad8 n8 lc8,.slice pad8 q8 pc8] = w9 at g9 S9 MT9 MA9 ⊢;clear g9 S8 MT8 MA8;refine @wQ _ _ _ _ _ _ _ ?_ ?_;kernel_rfl;intro K hK;go_simp;refine hK _ _ ?_;clear hK K
     go_wp2_with fail
     go_meet
     have ma9:=Mine.mono (B':=(fun k=>(k < w.heap.size∨k = rb)∨k = qb)) MA9.out HUB.out.2
     exact⟨er,rfl,lad8,n8,lc8,pad8,q8,pc8,S9,hid (MT9.out.mono (fun _ h=>.inl h)),L9,P9,SL8,NX,hid ma9⟩
    ·have hk0:(kdi == 0) = false:=by rw [h0]; rfl
     have hk1:(kdi == 1) = true:=by rw [h0]; rfl
     clear h0;obtain⟨L9,hL9⟩:∃ x,x = Tt.renL L pi pub:=⟨_,rfl⟩;obtain⟨P9,hP9⟩:∃ x,x = Tt.renP L P pi:=⟨_,rfl⟩;obtain⟨er,her⟩:∃ x,x = Tt.noneErr L pi:=⟨_,rfl⟩;have H1:=hid (HB.out pi);have NX:=hid (NB.out pi);rw [← hL9,← hP9,← her] at H1;rw [← hL9,← hP9,← her] at NX;clear hL9 hP9 her HA HB HC HD NA NB NC ND;have S7X:=S7.out
     go_upto_region 12 with fail
     refine wp_region_lit ?_;refine @wpList_load_known _ _ _ _ _ _ _ ?_ 27 (.tmp 3) rfl (qb) (0) rfl (.agg #[.slice lad ln lc,.slice pad pn pc]) (HLB.out _ _ S7.out) ?_;kernel_rfl
     simp only [Act.put,sA,sB,sC];iterate 2 (refine @wQ _ _ _ _ _ _ _ ?_ ?_;kernel_rfl;intro K hK;go_simp;refine hK _ _ ?_;clear hK K)
     refine @wpList_load_known _ _ _ _ _ _ _ ?_ 5 (.tmp 46) rfl (xb) (3) rfl (.int .u8 kz) (HLK.out _ _ S7.out) ?_;kernel_rfl
     simp only [Act.put,sA,sB,sC];refine @wpL_buildN _ _ _ _ _ _ _ ?_ 34 _ rfl #[(0,.int .u8 kz)] (by simp only [List.map_toArray,List.map_cons,List.map_nil]; rfl) _ (HBK.out _) ?_;kernel_rfl
     simp only [Act.put,sA,sB,sC];refine @wQ _ _ _ _ _ _ _ ?_ ?_;kernel_rfl;intro K hK;go_simp;go_at_call 14
     refine(H1.out _ w7 MT.out).mono ?_;rintro e w8 ⟨lv8,pv8,rfl,k8,SL8,m8⟩;obtain⟨lad8,lc8,rfl⟩:=m8.lvs.shape;obtain⟨pad8,pc8,rfl⟩:=m8.pts.shape;obtain⟨n8,hn8⟩:∃ n8,n8 = L9.length:=⟨_,rfl⟩;obtain⟨q8,hq8⟩:∃ q8,q8 = P9.length:=⟨_,rfl⟩;rw [← hn8,← hq8] at m8 ⊢;clear hn8 hq8;have S8:=hid (S7.out.kept k8);have MT8:=hid (MT.out.kept k8);have MA8:=hid m8;have HUB:=hid (show ub < w7.heap.size∧∀ k,((k < w.heap.size∨k = rb)∨k = qb)→k < w7.heap.size from⟨lt_of_block S7X.u,fun k h=>(MT.out.mono (B':=(fun k=>(k < w.heap.size∨k = rb)∨k = qb)) (fun _ a=>.inl a)).bnd k h |> fun a=>Nat.lt_of_lt_of_le a (Nat.le_refl _)⟩)
     clear k8 m8 S7X;refine hK _ _ ?_;clear hK K;iterate 3 (refine @wQ _ _ _ _ _ _ _ ?_ ?_;kernel_rfl;intro K hK;go_simp;refine hK _ _ ?_;clear hK K)
     refine wpList_store_row rfl 27 _ _ rfl (ub) #[.slice lad8 n8 lc8,.slice pad8 q8 pc8] rfl rfl 27 #[.slice lad ln lc,.slice pad pn pc] S8.out.u treeInfo rfl (tree_all _ _ _ _ _ _) ?_
     simp only [Act.put];have g9:=grown_setRow w8 ub #[.slice lad8 n8 lc8,.slice pad8 q8 pc8];have S9:=hid (S8.out.setU #[.slice lad8 n8 lc8,.slice pad8 q8 pc8]);have MT9:=hid (MT8.out.aside (b:=ub) (.inr rfl) g9);have MA9:=hid (MA8.out.aside (b:=ub) HUB.out.1 g9);generalize w8.setRow ub #[.slice lad8 n8 lc8,.slice pad8 q8 pc8] = w9 at g9 S9 MT9 MA9 ⊢;clear g9 S8 MT8 MA8;refine @wQ _ _ _ _ _ _ _ ?_ ?_;kernel_rfl;intro K hK;go_simp;refine hK _ _ ?_;clear hK K
     go_wp2_with fail
     go_meet
     have ma9:=Mine.mono (B':=(fun k=>(k < w.heap.size∨k = rb)∨k = qb)) MA9.out HUB.out.2
     exact⟨er,rfl,lad8,n8,lc8,pad8,q8,pc8,S9,hid (MT9.out.mono (fun _ h=>.inl h)),L9,P9,SL8,NX,hid ma9⟩
    ·have hk0:(kdi == 0) = false:=by rw [h0]; rfl
     have hk1:(kdi == 1) = false:=by rw [h0]; rfl
     have hk2:(kdi == 2) = true:=by rw [h0]; rfl
     clear h0;obtain⟨L9,hL9⟩:∃ x,x = Tt.outL L pi:=⟨_,rfl⟩;obtain⟨P9,hP9⟩:∃ x,x = Tt.outP L P pi:=⟨_,rfl⟩;obtain⟨er,her⟩:∃ x,x = Tt.noneErr L pi:=⟨_,rfl⟩;have H1:=hid (HC.out pi);have NX:=hid (NC.out pi);rw [← hL9,← hP9,← her] at H1;rw [← hL9,← hP9,← her] at NX;clear hL9 hP9 her HA HB HC HD NA NB NC ND;have S7X:=S7.out
     go_upto_region 14 with fail
     refine wp_region_lit ?_;refine @wpList_load_known _ _ _ _ _ _ _ ?_ 27 (.tmp 3) rfl (qb) (0) rfl (.agg #[.slice lad ln lc,.slice pad pn pc]) (HLB.out _ _ S7.out) ?_;kernel_rfl
     simp only [Act.put,sA,sB,sC];refine @wQ _ _ _ _ _ _ _ ?_ ?_;kernel_rfl;intro K hK;go_simp;refine hK _ _ ?_;clear hK K;refine @wQ _ _ _ _ _ _ _ ?_ ?_;kernel_rfl;intro K hK;go_simp;go_at_call 15
     refine(H1.out _ w7 MT.out).mono ?_;rintro e w8 ⟨lv8,pv8,rfl,k8,SL8,m8⟩;obtain⟨lad8,lc8,rfl⟩:=m8.lvs.shape;obtain⟨pad8,pc8,rfl⟩:=m8.pts.shape;obtain⟨n8,hn8⟩:∃ n8,n8 = L9.length:=⟨_,rfl⟩;obtain⟨q8,hq8⟩:∃ q8,q8 = P9.length:=⟨_,rfl⟩;rw [← hn8,← hq8] at m8 ⊢;clear hn8 hq8;have S8:=hid (S7.out.kept k8);have MT8:=hid (MT.out.kept k8);have MA8:=hid m8;have HUB:=hid (show ub < w7.heap.size∧∀ k,((k < w.heap.size∨k = rb)∨k = qb)→k < w7.heap.size from⟨lt_of_block S7X.u,fun k h=>(MT.out.mono (B':=(fun k=>(k < w.heap.size∨k = rb)∨k = qb)) (fun _ a=>.inl a)).bnd k h |> fun a=>Nat.lt_of_lt_of_le a (Nat.le_refl _)⟩)
     clear k8 m8 S7X;refine hK _ _ ?_;clear hK K;iterate 3 (refine @wQ _ _ _ _ _ _ _ ?_ ?_;kernel_rfl;intro K hK;go_simp;refine hK _ _ ?_;clear hK K)
     refine wpList_store_row rfl 27 _ _ rfl (ub) #[.slice lad8 n8 lc8,.slice pad8 q8 pc8] rfl rfl 27 #[.slice lad ln lc,.slice pad pn pc] S8.out.u treeInfo rfl (tree_all _ _ _ _ _ _) ?_
     simp only [Act.put];have g9:=grown_setRow w8 ub #[.slice lad8 n8 lc8,.slice pad8 q8 pc8];have S9:=hid (S8.out.setU #[.slice lad8 n8 lc8,.slice pad8 q8 pc8]);have MT9:=hid (MT8.out.aside (b:=ub) (.inr rfl) g9);have MA9:=hid (MA8.out.aside (b:=ub) HUB.out.1 g9);generalize w8.setRow ub #[.slice lad8 n8 lc8,.slice pad8 q8 pc8] = w9 at g9 S9 MT9 MA9 ⊢;clear g9 S8 MT8 MA8;refine @wQ _ _ _ _ _ _ _ ?_ ?_;kernel_rfl;intro K hK;go_simp;refine hK _ _ ?_;clear hK K
     go_wp2_with fail
     go_meet
     have ma9:=Mine.mono (B':=(fun k=>(k < w.heap.size∨k = rb)∨k = qb)) MA9.out HUB.out.2
     exact⟨er,rfl,lad8,n8,lc8,pad8,q8,pc8,S9,hid (MT9.out.mono (fun _ h=>.inl h)),L9,P9,SL8,NX,hid ma9⟩
    ·have hk0:(kdi == 0) = false:=by rw [h0]; rfl
     have hk1:(kdi == 1) = false:=by rw [h0]; rfl
     have hk2:(kdi == 2) = false:=by rw [h0]; rfl
     have hk3:(kdi == 3) = true:=by rw [h0]; rfl
     clear h0;obtain⟨m,hm⟩:=HLEN.out pi;have HKC2:=hid (HKC.out pi m hm.symm);obtain⟨KS,hKS⟩:∃ x,x = Tt.keysOf a9.key m:=⟨_,rfl⟩;rw [← hKS] at HKC2;obtain⟨L9,hL9⟩:∃ x,x = Tt.pathL L P pi pub KS:=⟨_,rfl⟩;obtain⟨P9,hP9⟩:∃ x,x = Tt.pathP L P pi KS:=⟨_,rfl⟩;obtain⟨er,her⟩:∃ x,x = Tt.pathErr L pi KS.length:=⟨_,rfl⟩;have H1:=hid (HD.out pi KS);have NX:=hid (ND.out pi KS);rw [← hL9,← hP9,← her] at H1;rw [← hL9,← hP9,← her] at NX;clear hL9 hP9 her hm hKS HA HB HC HD NA NB NC ND HKC
     go_upto_region 16 with fail
     refine wp_region_noPanic ?_;refine wp_region_held_drew (S:=fun u=>∃ VU,Sg8 w u rb qb xb ub #[.slice lad ln lc,.slice pad pn pc] DX VU) (by kernel_rfl) (⟨_,S7.out.kept ((Kept.refl _ _ _).drew)⟩) (fun hH=>?_)
     refine wpAnyH_take_at (i:=0) 63 (.agg #[.slice lad ln lc,.slice pad pn pc]) rfl rfl (by kernel_rfl) (by kernel_rfl) (by kernel_rfl) (fun _ _ _ h=>h) (yieldsIf_load_known (by kernel_rfl) 27 _ rfl (qb) (0) rfl (.agg #[.slice lad ln lc,.slice pad pn pc]) (fun u hu=>(by obtain⟨VU9,s9⟩:=hu; exact HLB.out _ _ s9))) hH ?_
     simp only [sA,sB,sC];refine wpAnyH_take_ex (i:=1) 64 rfl rfl (by kernel_rfl) (by kernel_rfl) (by kernel_rfl) (fun _ _ _ _ h=>h) (by kernel_rfl) hH ?_
     apply Exists.intro;apply And.intro
     ·intro w9 _
      go_simp
      first | done | rfl
     simp only [sA,sB,sC];refine wpAnyH_take_ex (i:=2) 65 rfl rfl (by kernel_rfl) (by kernel_rfl) (by kernel_rfl) (fun _ _ _ _ h=>h) (by kernel_rfl) hH ?_
     apply Exists.intro;apply And.intro
     ·intro w9 _
      go_simp
      first | done | rfl
     simp only [sA,sB,sC];refine wpAnyH_take_at (i:=3) 66 (.int .u8 kz) rfl rfl (by kernel_rfl) (by kernel_rfl) (by kernel_rfl) (fun _ _ _ h=>h) (yieldsIf_load_known (by kernel_rfl) 5 _ rfl (xb) (3) rfl (.int .u8 kz) (fun u hu=>(by obtain⟨VU9,s9⟩:=hu; exact HLK.out _ _ s9))) hH ?_
     simp only [sA,sB,sC];refine wpAnyH_take_at (i:=4) 67 (.agg DP) rfl rfl (by kernel_rfl) (by kernel_rfl) (by kernel_rfl) (fun _ _ _ h=>h) (yieldsIf_buildN9 (by kernel_rfl) 34 #[(0,.tmp 66)] rfl #[(0,.int .u8 kz)] (by simp only [List.map_toArray,List.map_cons,List.map_nil]; rfl) (.agg DP) HBK.out) hH ?_
     simp only [sA,sB,sC];refine wpAnyH_take_at (i:=5) 68 (.agg #[.slice lad ln lc,.slice pad pn pc]) rfl rfl (by kernel_rfl) (by kernel_rfl) (by kernel_rfl) (fun _ _ _ h=>h) (yieldsIf_load_known (by kernel_rfl) 27 _ rfl (qb) (0) rfl (.agg #[.slice lad ln lc,.slice pad pn pc]) (fun u hu=>(by obtain⟨VU9,s9⟩:=hu; exact HLB.out _ _ s9))) hH ?_
     simp only [sA,sB,sC];refine wpAnyH_take_ex (i:=6) 69 rfl rfl (by kernel_rfl) (by kernel_rfl) (by kernel_rfl) (fun _ _ _ _ h=>h) (by kernel_rfl) hH ?_
     apply Exists.intro;apply And.intro
     ·intro w9 _
      go_simp
      first | done | rfl
     simp only [sA,sB,sC];refine wpAnyH_take_ex (i:=7) 70 rfl rfl (by kernel_rfl) (by kernel_rfl) (by kernel_rfl) (fun _ _ _ _ h=>h) (by kernel_rfl) hH ?_
     apply Exists.intro;apply And.intro
     ·intro w9 _
      go_simp
      first | done | rfl
     simp only [sA,sB,sC];refine wpAnyH_take_at (i:=8) 71 (.int .u8 kz) rfl rfl (by kernel_rfl) (by kernel_rfl) (by kernel_rfl) (fun _ _ _ h=>h) (yieldsIf_load_known (by kernel_rfl) 5 _ rfl (xb) (3) rfl (.int .u8 kz) (fun u hu=>(by obtain⟨VU9,s9⟩:=hu; exact HLK.out _ _ s9))) hH ?_
     simp only [sA,sB,sC];refine wpAnyH_ready (rs:=[9]) (by kernel_rfl) (by simp) ?_
     refine AllReadyH.cons rfl (fun K hK=>?_) AllReadyH.nil
     rw [if_pos (by rfl)]
     go_simp
     go_wp2_with (go_at_call 17; refine(HKC2.out _).mono ?_; rintro e vk ⟨kv,rfl,okv,kvk⟩)
     obtain⟨kad,kc,rfl⟩:=ownh_shape okv;have SK:=S7.out.kept ((Kept.refl _ _ _).drew.onto kvk);have HSK:=okv.hs;refine hK.out _ _ ⟨_,SK⟩ (fun hH=>?_)
     clear hK K okv;refine wpAnyH_ready (rs:=[10]) (by kernel_rfl) (by simp) ?_
     refine AllReadyH.cons rfl (fun K hK=>?_) AllReadyH.nil
     rw [if_pos (by rfl)]
     go_simp
     go_wp2_with (go_at_call 16; refine(H1.out _ vk (MT.out.kept ((Kept.refl _ _ _).drew.onto kvk)) _ HSK).mono ?_; rintro e w8 ⟨lv8,pv8,rfl,k8,SL8,m8⟩)
     have k7v:=(Kept.refl w7.heap.size w7.heap.size w7).drew.onto kvk;obtain⟨lad8,lc8,rfl⟩:=m8.lvs.shape;obtain⟨pad8,pc8,rfl⟩:=m8.pts.shape;obtain⟨n8,hn8⟩:∃ n8,n8 = L9.length:=⟨_,rfl⟩;obtain⟨q8,hq8⟩:∃ q8,q8 = P9.length:=⟨_,rfl⟩;rw [← hn8,← hq8] at m8 ⊢;clear hn8 hq8;have S8:=hid (S7.out.kept (k7v.onto k8));have MT8:=hid (MT.out.kept (k7v.onto k8));have MA8:=hid m8;have HUB:=hid (show ub < vk.heap.size∧∀ k,((k < w.heap.size∨k = rb)∨k = qb)→k < vk.heap.size from⟨lt_of_block SK.u,fun k h=>(MT.out.mono (B':=(fun k=>(k < w.heap.size∨k = rb)∨k = qb)) (fun _ a=>.inl a)).bnd k h |> fun a=>Nat.lt_of_lt_of_le a ((Kept.refl w7.heap.size w7.heap.size w7).drew.onto kvk).size⟩)
     clear k8 m8 k7v SK HSK kvk;refine hK.out _ _ ⟨_,S8.out⟩ (fun hH=>?_)
     clear hK K;refine wpAnyH_take_ex (i:=11) 62 rfl rfl (by kernel_rfl) (by kernel_rfl) (by kernel_rfl) (fun _ _ _ _ h=>h) (by kernel_rfl) hH ?_
     apply Exists.intro;apply And.intro
     ·intro w9 _
      go_simp
      first | done | rfl
     simp only [sA,sB,sC];refine wpAnyH_take_ex (i:=12) 74 rfl rfl (by kernel_rfl) (by kernel_rfl) (by kernel_rfl) (fun _ _ _ _ h=>h) (by kernel_rfl) hH ?_
     apply Exists.intro;apply And.intro
     ·intro w9 _
      go_simp
      first | done | rfl
     simp only [sA,sB,sC];refine wpAnyH_take_ex (i:=13) 75 rfl rfl (by kernel_rfl) (by kernel_rfl) (by kernel_rfl) (fun _ _ _ _ h=>h) (by kernel_rfl) hH ?_
     apply Exists.intro;apply And.intro
     ·intro w9 _
      go_simp
      first | done | rfl
     simp only [sA,sB,sC];refine wpAnyH_ready (rs:=[14]) (by kernel_rfl) (by simp) ?_
     refine AllReadyH.cons rfl (fun K hK=>?_) AllReadyH.nil
     rw [if_pos (by rfl)]
     refine wp_store_row_none11 27 _ _ rfl rfl ub #[.slice lad8 n8 lc8,.slice pad8 q8 pc8] rfl rfl 27 #[.slice lad ln lc,.slice pad pn pc] S8.out.u treeInfo rfl (tree_all _ _ _ _ _ _) ?_
     have g9:=grown_setRow w8 ub #[.slice lad8 n8 lc8,.slice pad8 q8 pc8];have S9:=hid (S8.out.setU #[.slice lad8 n8 lc8,.slice pad8 q8 pc8]);have MT9:=hid (MT8.out.aside (b:=ub) (.inr rfl) g9);have MA9:=hid (MA8.out.aside (b:=ub) HUB.out.1 g9);generalize w8.setRow ub #[.slice lad8 n8 lc8,.slice pad8 q8 pc8] = w9 at g9 S9 MT9 MA9 ⊢;clear g9 S8 MT8 MA8;refine hK.out _ _ ⟨_,S9.out⟩ (fun hH=>?_)
     clear hK K;refine wpAnyH_take_ex (i:=15) 8 rfl rfl (by kernel_rfl) (by kernel_rfl) (by kernel_rfl) (fun _ _ _ _ h=>h) (by kernel_rfl) hH ?_
     apply Exists.intro;apply And.intro
     ·intro w9 _
      go_simp
      first | done | rfl
     simp only [sA,sB,sC];refine wpAnyH_done (by kernel_rfl) ?_ _
     refine NoPanic.normal ?_
     go_wp2_with fail
     go_meet
     have ma9:=Mine.mono (B':=(fun k=>(k < w.heap.size∨k = rb)∨k = qb)) MA9.out HUB.out.2
     exact⟨er,rfl,lad8,n8,lc8,pad8,q8,pc8,S9,hid (MT9.out.mono (fun _ h=>.inl h)),L9,P9,SL8,NX,hid ma9⟩
   case rest=>
    obtain⟨er,rfl,lad8,n8,lc8,pad8,q8,pc8,S9,MT9,L9,P9,SL9,HEQ,MA9⟩:=hcut
    go_upto_region 17 with fail
    refine wp_region_lit ?_;iterate 2 (refine @wQ _ _ _ _ _ _ _ ?_ ?_;kernel_rfl;intro K hK;go_simp;refine hK _ _ ?_;clear hK K)
    by_cases hz:er = 0
    ·have hzb:(er == 0) = true:=by rw [hz]; rfl
     have HR1:=hid (HEQ.out hz);clear hz
     go_upto_region 18 with fail
     refine wp_region_lit ?_;refine @wpList_load_known _ _ _ _ _ _ _ ?_ 27 (.tmp 7) rfl (ub) (0) rfl (.agg #[.slice lad8 n8 lc8,.slice pad8 q8 pc8]) (run_loadVar_row _ ub 27 27 _ (0,0) _ S9.out.u Try.underlying27 rfl treeInfo) ?_;kernel_rfl
     simp only [Act.put,sA,sB,sC];refine wpList_store_row rfl 27 _ _ rfl (qb) #[.slice lad8 n8 lc8,.slice pad8 q8 pc8] rfl rfl 27 #[.slice lad ln lc,.slice pad pn pc] S9.out.q treeInfo rfl (tree_all _ _ _ _ _ _) ?_
     simp only [Act.put];have S10:=hid (S9.out.setQ #[.slice lad8 n8 lc8,.slice pad8 q8 pc8]);have g10:=grown_setRow wc qb #[.slice lad8 n8 lc8,.slice pad8 q8 pc8];have M10:=hid (MA9.out.aside (b:=qb) (.inr rfl) g10);generalize wc.setRow qb #[.slice lad8 n8 lc8,.slice pad8 q8 pc8] = wy at S10 g10 M10 ⊢;clear g10;have hi9:=HLT.out;have ha9:=HA9.out;have hw64:IntKind.i64.wrap ((i:Int) + 1) = (i:Int) + 1:=wrap_small _ (by omega) (by omega)
     go_wp2
     go_roundw
     case rel=>exact⟨i + 1,(by have h2:=HLT.out; go_num),hid HLT.out,hid S10.out.k,hid S10.out.r,_,_,_,_,_,_,hid S10.out.q,L9,P9,SL9,HR1,M10⟩
     case measure=>have h2:=HLT.out; simp [RowKit.intOf]; omega
    ·have hzb:(er == 0) = false:=by rw [beq_eq_false_iff_ne]; exact hz
     clear hz;have hi9:=HLT.out;have ha9:=HA9.out;have hw64:IntKind.i64.wrap ((i:Int) + 1) = (i:Int) + 1:=wrap_small _ (by omega) (by omega)
     go_wp2
     go_roundw
     case rel=>exact⟨i + 1,(by have h2:=HLT.out; go_num),hid HLT.out,hid S9.out.k,hid S9.out.r,_,_,_,_,_,_,hid S9.out.q,L,P,SL,HR,MT9⟩
     case measure=>have h2:=HLT.out; simp [RowKit.intOf]; omega
  ·have hnl:¬ (i:Int) < (an:Int):=by omega
   clear hlt hi
   go_upto_region 19 with fail
   refine wp_region_lit ?_;refine @wpList_load_known _ _ _ _ _ _ _ ?_ 27 (.tmp 3) rfl (qb) (0) rfl (.agg #[.slice lad ln lc,.slice pad pn pc]) (run_loadVar_row wr qb 27 27 _ (0,0) _ HQR.out Try.underlying27 rfl treeInfo) ?_;kernel_rfl
   simp only [Act.put,sA,sB,sC];refine wpList_store_row rfl 27 _ _ rfl (rb) #[.slice lad ln lc,.slice pad pn pc] rfl rfl 27 #[.slice none 0 0,.slice none 0 0] HRR.out treeInfo rfl (tree_all _ _ _ _ _ _) ?_
   simp only [Act.put];have RZ:=setRow_heap wr rb _ #[.slice lad ln lc,.slice pad pn pc] _ _ HRR.out;have gz:=grown_setRow wr rb #[.slice lad ln lc,.slice pad pn pc];have KZ:=hid (HK.out.grown gz HK.out.size (fun q hq=>by cases hq; exact HRB.out))
   have MZ:=hid ((HM.out.aside (b:=rb) (.inl (.inr rfl)) gz).mono (B':=fun k=>k < w.heap.size) (fun k h=>.inl (.inl h)))
   generalize wr.setRow rb #[.slice lad ln lc,.slice pad pn pc] = wz at RZ gz KZ MZ ⊢;clear gz;go_wp2;refine bodyPost_ret (results_cell_row rfl _ _ rb 27 _ (0,0) _ rfl RZ Try.underlying27 rfl treeInfo) rfl ?_
   have hm9:=MZ.out;have hr9:=HR.out;have hk9:=KZ.out;clear MZ HR KZ;exact⟨_,_,rfl,hk9,L,P,hr9,_,hm9⟩
end Go.Proofs.Ytlpabcnhcbgfjaa
