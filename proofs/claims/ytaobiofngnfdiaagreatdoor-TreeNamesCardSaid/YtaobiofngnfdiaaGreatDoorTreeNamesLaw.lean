/-
 The law TreeNames.
-/
import Derived.Test.YtaobiofngnfdiaaGreatDoorHP
import Derived.Test.YtaobiofngnfdiaaGreatDoorHQ
set_option maxRecDepth 100000
set_option maxHeartbeats 12800000
namespace Go.Proofs.YtaobiofngnfdiaaGreatDoor
open Go.RowKit Go.Lib
open List renaming setIfInBounds_toArray → sA, set_cons_zero → sB, set_cons_succ → sC
open BigFrame renaming wpList_want → wQ
theorem Tt.right_loose667 {L:List Lf}{P:List Pr}(h:Tt.right L P = true):∀ p∈P,p.loose.length≤1000:=fun p hp=>by
 obtain⟨h1,_,h3⟩:=Tt.right_parts h;exact Nat.le_trans (Tt.parents_loose h1 P 0 h3 p hp) (by decide)
theorem mod_u87 (x:UInt8):∃ y:Int,IntKind.u8.wrap ((x.toNat:Int).tmod 4) = y∧(x.toNat:Int).tmod 4 = y∧(y = 0∨y = 1∨y = 2∨y = 3):=by
 have h1:(x.toNat:Int).tmod 4 = ((x.toNat % 4:Nat):Int):=by
  rw [Int.tmod_eq_emod_of_nonneg (Int.natCast_nonneg _)]
  rfl
 refine⟨((x.toNat % 4:Nat):Int),?_,h1,by omega⟩
 rw [h1];show((x.toNat % 4:Nat):Int) % 256 = _;exact Int.emod_eq_of_lt (Int.natCast_nonneg _) (by omega)
theorem met_cell {w:World}{b:Nat}{M:List Int}(h:w.heap[b]? = some (.cells (Tt.met M).toArray 53 (0,0)))(k:Nat)(hk:k < 65):w.cell? ⟨b,k,none⟩ = some (.bool (M.contains (k:Int))):=cells_get (j:=k) h (Tt.met_at M k hk)
theorem treenames_walk (v:Value)(A:List Ac8)(w:World)(hA:Acs8 w v A)(ht:Tab w):
  Calls Tryz.prog 5 #[v] w fun e w'=>e = .returned (.bool true)∧Kept w.heap.size w.heap.size w w':=by
 obtain⟨aad,ac,ag,ao,rfl,hel⟩:=hA;obtain⟨an,han⟩:∃ an,an = A.length:=⟨_,rfl⟩;rw [← han];have HEL:=hid hel;have HAN:=hid han;have HTW:=hid ht;have HAW:=hid (fun x=>awake_calls8 x)
 clear hel han ht
 go_enter Tryz.func5,Tryz.ntmps5
 go_upto_region 1 with fail
 by_cases hgt:(an:Int) > 100
 ·have hg:decide ((an:Int) > 100) = true:=decide_eq_true hgt
  clear hgt;refine wp_region_lit ?_;refine @wQ _ _ _ _ _ _ _ ?_ ?_;kernel_rfl;intro K hK;go_simp;go_at_call 7
  refine(HAW.out _).mono ?_;rintro e w2 ⟨rfl,k2⟩;have K2:=hid k2;clear k2;refine hK _ _ ?_;clear hK K;iterate 6 (refine @wQ _ _ _ _ _ _ _ ?_ ?_;kernel_rfl;intro K hK;go_simp;refine hK _ _ ?_;clear hK K)
  go_upto_region 2 with fail
  refine wp_region_lit ?_;refine @wQ _ _ _ _ _ _ _ ?_ ?_;kernel_rfl;intro K hK;go_simp;go_at_call 7
  refine(HAW.out _).mono ?_;rintro e w3 ⟨rfl,k3⟩;have K3:=hid (K2.out.onto k3);clear k3;refine hK _ _ ?_;clear hK K;refine @wQ _ _ _ _ _ _ _ ?_ ?_;kernel_rfl;intro K hK;go_simp;refine hK _ _ ?_;clear hK K;go_wp2;go_ret;exact⟨rfl,K3.out⟩
 ·have hg:decide ((an:Int) > 100) = false:=decide_eq_false hgt
  have HA9:=hid (show(an:Int)≤100 by omega)
  clear hgt;refine wp_region_lit ?_;refine @wQ _ _ _ _ _ _ _ ?_ ?_;kernel_rfl;intro K hK;go_simp;go_at_call 7
  refine(HAW.out _).mono ?_;rintro e w2 ⟨rfl,k2⟩;have K2:=hid k2;clear k2;refine hK _ _ ?_;clear hK K;iterate 6 (refine @wQ _ _ _ _ _ _ _ ?_ ?_;kernel_rfl;intro K hK;go_simp;refine hK _ _ ?_;clear hK K)
  go_upto_region 3 with fail
  refine wp_region_lit ?_;refine @wpL_build0 _ _ _ _ _ _ _ ?_ 27 rfl _ (build_tree0 _) ?_;kernel_rfl
  simp only [Act.put,sA,sB,sC];refine @wpL_alloc _ _ _ _ _ _ _ _ ?_ 27 rfl _ (alloc_tree _) ?_;kernel_rfl
  simp only [Act.put,sA,sB,sC];refine wpList_store_row rfl 27 _ _ rfl (w2.heap.size) #[.slice none 0 0,.slice none 0 0] rfl rfl 27 #[.slice none 0 0,.slice none 0 0] (heap_new _ _) (treeInfo) (rfl) (tree_all _ _ _ _ _ _) ?_
  simp only [Act.put];rw [World.setRow_alloc_new];have k3:=kA w2 (.cells #[.slice none 0 0,.slice none 0 0] 27)
  have q3:=heap_new w2 (.cells #[.slice none 0 0,.slice none 0 0] 27)
  have K3:=hid (K2.out.onto k3);have hq3:w.heap.size≤w2.heap.size:=K2.out.size;generalize w2.alloc (.cells #[.slice none 0 0,.slice none 0 0] 27) = w3 at q3 K3 ⊢
  obtain⟨qb,hqb⟩:∃ qb,qb = w2.heap.size:=⟨_,rfl⟩;rw [← hqb] at q3 hq3
  (try rw [← hqb])
  have M3:=hid (Mine.empty (fun k=>k = qb) w3 (fun k hk=>by rw [hk]; exact lt_of_block q3))
  have Q3:=hid q3;have HQ:=hid hq3;clear k3 q3 hq3 hqb K2
  go_upto_region 4 with fail
  refine wp_region_lit ?_;refine @wpL_alloc _ _ _ _ _ _ _ _ ?_ 53 rfl _ (alloc_met _) ?_;kernel_rfl
  simp only [Act.put,sA,sB,sC];have k4:=kA w3 (.cells (Tt.met []).toArray 53)
  have i4:=heap_new w3 (.cells (Tt.met []).toArray 53)
  have m4:=M3.out.box (.cells (Tt.met []).toArray 53)
  have K4:=hid (K3.out.onto k4);have Q4:=hid (row_kept Q3.out k4);have hi4:qb < w3.heap.size:=lt_of_block Q3.out;generalize w3.alloc (.cells (Tt.met []).toArray 53) = w4 at i4 m4 K4 Q4 ⊢
  obtain⟨ib,hib⟩:∃ x,x = w3.heap.size:=⟨_,rfl⟩;rw [← hib] at i4 m4 hi4
  (try rw [← hib])
  have M4:=hid m4;have I4:=hid i4;have HI:=hid hi4;clear k4 i4 m4 hib hi4 K3 M3 Q3;go_wp2
  go_loopw [5] (fun s5 wr=>∃ i:Nat,s5 = .int .i64 (i:Int)∧Hid (i≤an)∧Hid (Kept w.heap.size w.heap.size w wr)∧∃ lad ln lc pad pn pc,Hid (wr.heap[qb]? = some (.cells #[.slice lad ln lc,.slice pad pn pc] 27 (0,0)))∧∃ L P SL,Hid (Tt.right L P = true)∧Hid (wr.heap[ib]? = some (.cells (Tt.met (Tt.names L)).toArray 53 (0,0)))∧Hid (Mine (fun k=>k = qb∨k = ib) wr (.slice lad ln lc) (.slice pad pn pc) L P SL)) (fun s5 _=>an - (RowKit.intOf s5).toNat)
  case atStart=>exact⟨0,rfl,hid (Nat.zero_le _),K4,_,_,_,_,_,_,Q4,[],[],[],hid (by decide),I4,M4⟩
  case round=>
   obtain⟨i,rfl,hi,HK,lad,ln,lc,pad,pn,pc,HQR,L,P,SL,HR,HIR,HM⟩:=hrel;clear K4 M4 Q4 I4;have han:=HA9.out
   by_cases hlt:i < an
   ·have hlti:(i:Int) < (an:Int):=by omega
    have hi0:¬ (i:Int) < 0:=by omega
    have hiA:i < A.length:=by rw [← HAN.out]; exact hlt
    obtain⟨had,hag,har⟩:=HEL.out i hiA;obtain⟨a9,ha9⟩:∃ x,x = A[i]:=⟨_,rfl⟩;rw [← ha9] at har;obtain⟨DX,hDX⟩:∃ D,D = a9.cells.toArray:=⟨_,rfl⟩;have HLT:=hid hlt;have HXJ:=hid (show(Tryz.prog.info? 31).map (·.size) = some a9.cells.length from actInfo8)
    have HXI:=hid (show(Tryz.prog.info? 31).map (·.size) = some DX.size by rw [hDX]; exact actInfo8)
    have HXZ:=hid (show(#[.int .u8 0,.int .i64 0,.int .i64 0,.int .u8 0]:Array Value).size = DX.size by rw [hDX]; rfl)
    have HXA:=hid (show DX.all (·.oneCell') = true by rw [hDX]; exact a9.all)
    have HLX:=hid (run_loadVar_mid wr ag (ao + i * 4) 31 a9.cells _ (rangeAt_kept HK.out har hag (Nat.ne_of_lt hag)) Tryz.underlying31 rfl HXJ.out)
    rw [← hDX] at HLX;obtain⟨kdi,hkd,hkdb,hkd4⟩:=mod_u87 a9.kind;obtain⟨kd,hkdn⟩:∃ x:Int,x = (a9.kind.toNat:Int):=⟨_,rfl⟩;obtain⟨kz,hkz⟩:∃ x:Int,x = (a9.key.toNat:Int):=⟨_,rfl⟩;obtain⟨nm,hnm⟩:∃ x,x = a9.name:=⟨_,rfl⟩;rw [← hkdn] at hkd hkdb;have HX0:=hid (show DX[0]? = some (.int .u8 kd) by rw [hDX,hkdn]; rfl)
    have HX1:=hid (show DX[1]? = some (.int .i64 nm) by rw [hDX,hnm]; rfl)
    have HX3:=hid (show DX[3]? = some (.int .u8 kz) by rw [hDX,hkz]; rfl)
    have HM4:=hid hkd;have HM4b:=hid hkdb;have HDI:=hid hkd4;obtain⟨h64,hpe,_⟩:=Tt.right_parts HR.out;have HN:=hid (show L.length≤1000 by omega)
    have HPP:=hid (show P.length≤1000 by omega)
    have HPL:=hid (Tt.right_loose667 HR.out);have hsh:=HM.out.lvs.shape;obtain⟨_,_,hsh⟩:=hsh;injection hsh with hq1 hln hq2
    clear hq1 hq2;obtain⟨_,_,hsh⟩:=HM.out.pts.shape;injection hsh with hq1 hpn hq2
    clear hq1 hq2;have HLN:=hid hln;have HPN:=hid hpn;have HPC:=hid (fun(u:World)=>actplace_calls lad pad ln lc pn pc a9 (by rw [hln]; omega) u)
    rw [← hDX] at HPC;have HBK:=hid (fun u=>build_key0 a9.key u)
    rw [show Tt.keyN a9.key 0 = a9.key :: List.replicate 31 0 from rfl,← hkz] at HBK;have hpub:(a9.key :: List.replicate 31 (0:UInt8)).length = 32:=rfl;obtain⟨pub,hpu⟩:∃ x,x = a9.key :: List.replicate 31 (0:UInt8):=⟨_,rfl⟩;rw [← hpu] at HBK hpub;obtain⟨DP,hDP⟩:∃ D,D = (bcells pub).toArray:=⟨_,rfl⟩;rw [← hDP] at HBK;have hlo:(nameLeaf nm).Ok:=⟨rfl,rfl,rfl⟩;have HBL:=hid (fun u=>build_nameLeaf nm u)
    obtain⟨l,hl⟩:∃ x,x = nameLeaf nm:=⟨_,rfl⟩;have HLNM:=hid (show l.name = nm by rw [hl]; rfl)
    rw [← hl] at HBL hlo;obtain⟨DL,hDL⟩:∃ D,D = l.cells.toArray:=⟨_,rfl⟩;rw [← hDL] at HBL;have HA:=hid (fun(B:Nat→Prop) (u:World) (m:Mine B u (.slice lad ln lc) (.slice pad pn pc) L P SL)=>add_any _ _ L P l hlo u m.lvs m.pts HPL.out HR.out)
    have HB:=hid (fun(x:Int) (B:Nat→Prop) (u:World) (m:Mine B u (.slice lad ln lc) (.slice pad pn pc) L P SL)=>renew_any _ _ L P x u m.lvs m.pts HPL.out HR.out pub hpub)
    have HC:=hid (fun(x:Int) (B:Nat→Prop) (u:World) (m:Mine B u (.slice lad ln lc) (.slice pad pn pc) L P SL)=>remove_any _ _ L P x u m.lvs m.pts HPL.out HR.out)
    have HD:=hid (fun(x:Int) (ks:List (List UInt8)) (B:Nat→Prop) (u:World) (m:Mine B u (.slice lad ln lc) (.slice pad pn pc) L P SL) (kk:Kept w.heap.size w.heap.size w u) (kv:Value) (hK:Hs u kv ks)=>path_any _ _ L P x pub hpub kv ks u m.lvs m.pts HPL.out HR.out hK (HTW.out.ontoP kk))
    have HKC:=hid (fun(x:Int) (m:Nat) (hm:(Bo.Direct (ln:Int) x).length = m) (u:World)=>keys_calls8 lad pad ln lc pn pc m a9.key x hm u)
    have HLEN:=hid (fun(x:Int)=>(⟨_,rfl⟩:∃ m,m = (Bo.Direct (ln:Int) x).length))
    rw [← hDL] at HA;rw [← hDP] at HB HD;rw [← hkz] at HKC;have NA:=hid (fun h:Tt.addErr L l.name = 0=>(⟨Tt.add_right HR.out l h,Tt.names_put l h⟩:Tt.right (Tt.putL L l) (Tt.putP L P l.name) = true∧(1≤l.name∧l.name≤64)∧∀ y:Int,y∈Tt.names (Tt.putL L l)↔y = l.name∨y∈Tt.names L))
    have NB:=hid (fun(x:Int) (h:Tt.noneErr L x = 0)=>(⟨Tt.renew_right HR.out h pub,Tt.names_ren h pub⟩:Tt.right (Tt.renL L x pub) (Tt.renP L P x) = true∧∀ y:Int,y∈Tt.names (Tt.renL L x pub)↔y∈Tt.names L))
    have NC:=hid (fun(x:Int) (h:Tt.noneErr L x = 0)=>(⟨Tt.remove_right HR.out h,Tt.names_out HR.out h⟩:Tt.right (Tt.outL L x) (Tt.outP L P x) = true∧(1≤Tt.nameAt L x∧Tt.nameAt L x≤64)∧∀ y:Int,y∈Tt.names (Tt.outL L x)↔y∈Tt.names L∧y≠Tt.nameAt L x))
    have ND:=hid (fun(x:Int) (ks:List (List UInt8)) (h:Tt.pathErr L x ks.length = 0)=>(⟨Tt.path_right HR.out pub ks h,Tt.names_path pub ks h⟩:Tt.right (Tt.pathL L P x pub ks) (Tt.pathP L P x ks) = true∧∀ y:Int,y∈Tt.names (Tt.pathL L P x pub ks)↔y∈Tt.names L))
    rw [HLNM.out] at HA NA
    have HNAT:=hid (fun(p:Nat)=>(⟨(Tt.nameAt L (p:Int)).toNat,by
     have h4:=((Tt.right_iff L P).1 HR.out).2.2.2.1
     by_cases h0:Tt.nameAt L (p:Int) = 0
     ·rw [h0]; rfl
     ·have:=(Tt.leavesOk_names L [] h4).2 _ (Tt.names_at.2 ⟨h0,p,rfl⟩)
      omega⟩:∃ nq:Nat,Tt.nameAt L (p:Int) = (nq:Int)))
    subst had;clear hlt hi hiA hag har ha9 hDX hkd hkdb hkd4 hkdn hkz hnm h64 hpe hln hpn hpu hDP hlo hl hDL hpub
    go_upto_region 8 with fail
    refine wp_region_lit ?_;iterate 3 (refine @wQ _ _ _ _ _ _ _ ?_ ?_;kernel_rfl;intro K hK;go_simp;refine hK _ _ ?_;clear hK K)
    refine @wpList_load_known _ _ _ _ _ _ _ ?_ 31 (.tmp 30) rfl (ag) (ao + i * 4) rfl (.agg DX) (HLX.out) ?_;kernel_rfl
    simp only [Act.put,sA,sB,sC];refine @wpL_alloc _ _ _ _ _ _ _ _ ?_ 31 rfl _ (alloc_act8 _) ?_;kernel_rfl
    simp only [Act.put,sA,sB,sC];refine wpList_store_row rfl 31 _ _ rfl (wr.heap.size) DX rfl rfl 31 #[.int .u8 0,.int .i64 0,.int .i64 0,.int .u8 0] (heap_new _ _) (HXI.out) (HXZ.out) (HXA.out) ?_
    simp only [Act.put];rw [World.setRow_alloc_new];have k5:=kA wr (.cells DX 31)
    have x5:=heap_new wr (.cells DX 31)
    have K5:=hid (HK.out.onto k5);have Q5:=hid (row_kept HQR.out k5);have I5:=hid (row_kept HIR.out k5);have M5:=hid (HM.out.kept k5);have hx5:ib < wr.heap.size:=lt_of_block HIR.out;generalize wr.alloc (.cells DX 31) = w5 at x5 K5 Q5 I5 M5 ⊢
    obtain⟨xb,hxb⟩:∃ x,x = wr.heap.size:=⟨_,rfl⟩;rw [← hxb] at x5 hx5
    (try rw [← hxb])
    have X5:=hid x5;have HX:=hid hx5;clear k5 x5 hx5 hxb HK HQR HIR HM HLX
    go_upto_region 9 with fail
    refine wp_region_lit ?_;refine @wpList_load_known _ _ _ _ _ _ _ ?_ 27 (.tmp 3) rfl (qb) (0) rfl (.agg #[.slice lad ln lc,.slice pad pn pc]) (run_loadVar_row w5 qb 27 27 _ (0,0) _ Q5.out Tryz.underlying27 rfl treeInfo) ?_;kernel_rfl
    simp only [Act.put,sA,sB,sC];refine @wpList_load_known _ _ _ _ _ _ _ ?_ 31 (.tmp 6) rfl (xb) (0) rfl (.agg DX) (run_loadVar_row w5 xb 31 31 _ (0,0) _ X5.out Tryz.underlying31 rfl HXI.out) ?_;kernel_rfl
    simp only [Act.put,sA,sB,sC];refine @wQ _ _ _ _ _ _ _ ?_ ?_;kernel_rfl;intro K hK;go_simp;go_at_call 20
    refine(HPC.out _).mono ?_;rintro e w6 ⟨p,_,rfl,k6⟩;have K6:=hid (K5.out.onto k6);have Q6:=hid (row_kept Q5.out k6);have I6:=hid (row_kept I5.out k6);have X6:=hid (row_kept X5.out k6);have M6:=hid (M5.out.kept k6);obtain⟨nq,hnq⟩:=HNAT.out p;obtain⟨pi,hpi⟩:∃ x:Int,x = (p:Int):=⟨_,rfl⟩;have HPI:=hid hpi;rw [← hpi] at hnq;have HNQ:=hid hnq;rw [← hpi];clear k6 hpi hnq K5 Q5 I5 X5 M5 HPC;refine hK _ _ ?_;clear hK K;refine @wQ _ _ _ _ _ _ _ ?_ ?_;kernel_rfl;intro K hK;go_simp;refine hK _ _ ?_;clear hK K
    go_upto_region 10 with fail
    refine wp_region_lit ?_;refine @wQ _ _ _ _ _ _ _ ?_ ?_;kernel_rfl;intro K hK;go_simp;refine hK _ _ ?_;clear hK K
    go_upto_region 11 with fail
    have t0:=load_slice (d:=.int .u8) (two_cell0 Q6.out) (.inl rfl) rfl;refine wp_region_lit ?_;iterate 2 (refine @wQ _ _ _ _ _ _ _ ?_ ?_;kernel_rfl;intro K hK;go_simp;refine hK _ _ ?_;clear hK K)
    refine @wpList_load_known _ _ _ _ _ _ _ ?_ 24 (.tmp 36) rfl (qb) (0) rfl (.slice lad ln lc) (t0) ?_;kernel_rfl
    simp only [Act.put,sA,sB,sC];iterate 2 (refine @wQ _ _ _ _ _ _ _ ?_ ?_;kernel_rfl;intro K hK;go_simp;refine hK _ _ ?_;clear hK K)
    clear t0
    go_upto_if 39 with fail
    go_cut [8] (fun s8 wx=>s8 = .int .i64 (nq:Int)∧wx = w6)
    case first=>
     by_cases hpl:pi < (ln:Int)
     ·have hp0:¬ pi < 0:=by have:=HPI.out; omega
      have hpL:p < L.length:=by have:=HPI.out; have:=HLN.out; omega
      obtain⟨g1,had1,hg1,hokx,hr1⟩:=M6.out.leafRow p hpL
      have c0:w6.cell? ⟨g1,p * 97,none⟩ = some (.int .i64 (nq:Int)):=by
       have h8:=hr1 0 (.int .i64 L[p].name) (by simp [Lf.cells])
       rw [Nat.add_zero] at h8;rw [h8,← Tt.nameAt_get hpL,← HPI.out,HNQ.out]
      have C0:=hid (load_int c0);have HPI2:=HPI.out;subst had1;subst HPI2;have t0:=load_slice (d:=.int .u8) (two_cell0 Q6.out) (.inl rfl) rfl;clear hpL hg1 hokx hr1 c0
      go_upto_region 12 with fail
      refine wp_region_lit ?_;refine @wQ _ _ _ _ _ _ _ ?_ ?_;kernel_rfl;intro K hK;go_simp;refine hK _ _ ?_;clear hK K;refine @wpList_load_known _ _ _ _ _ _ _ ?_ 24 (.tmp 40) rfl (qb) (0) rfl (.slice (some ⟨g1,0,none⟩) ln lc) (t0) ?_;kernel_rfl
      simp only [Act.put,sA,sB,sC];iterate 3 (refine @wQ _ _ _ _ _ _ _ ?_ ?_;kernel_rfl;intro K hK;go_simp;refine hK _ _ ?_;clear hK K)
      refine @wpList_load_known _ _ _ _ _ _ _ ?_ 3 (.tmp 44) rfl (g1) (p * 97) rfl (.int .i64 (nq:Int)) (C0.out) ?_;kernel_rfl
      simp only [Act.put,sA,sB,sC];refine @wQ _ _ _ _ _ _ _ ?_ ?_;kernel_rfl;intro K hK;go_simp;refine hK _ _ ?_;clear hK K
      go_wp2_with fail
      go_meet
      exact⟨rfl,rfl⟩
     ·have hz:nq = 0:=by
       have h1:=HNQ.out;have h2:=HPI.out;have h3:=HLN.out;unfold Tt.nameAt at h1;rw [List.getElem?_eq_none (by omega)] at h1
       have h4:(0:Int) = (nq:Int):=h1
       omega
      go_wp2_with fail
      go_meet
      exact⟨by rw [hz]; rfl,rfl⟩
    case rest=>
     obtain⟨rfl,hwx⟩:=hcut;have hwx2:=hwx.symm;clear hwx;subst hwx2
     go_upto_region 13 with fail
     refine wp_region_lit ?_;refine @wpList_load_known _ _ _ _ _ _ _ ?_ 27 (.tmp 3) rfl (qb) (0) rfl (.agg #[.slice lad ln lc,.slice pad pn pc]) (run_loadVar_row w6 qb 27 27 _ (0,0) _ Q6.out Tryz.underlying27 rfl treeInfo) ?_;kernel_rfl
     simp only [Act.put,sA,sB,sC];refine @wpL_alloc _ _ _ _ _ _ _ _ ?_ 27 rfl _ (alloc_tree _) ?_;kernel_rfl
     simp only [Act.put,sA,sB,sC];refine wpList_store_row rfl 27 _ _ rfl (w6.heap.size) #[.slice lad ln lc,.slice pad pn pc] rfl rfl 27 #[.slice none 0 0,.slice none 0 0] (heap_new _ _) (treeInfo) (rfl) (tree_all _ _ _ _ _ _) ?_
     simp only [Act.put];rw [World.setRow_alloc_new];have k7:=kA w6 (.cells #[.slice lad ln lc,.slice pad pn pc] 27)
     have u7:=heap_new w6 (.cells #[.slice lad ln lc,.slice pad pn pc] 27)
     have m7:=M6.out.box (.cells #[.slice lad ln lc,.slice pad pn pc] 27)
     have sn7:∀ ub,ub = w6.heap.size→Sn8 w (w6.alloc (.cells #[.slice lad ln lc,.slice pad pn pc] 27)) qb ib xb ub #[.slice lad ln lc,.slice pad pn pc] DX #[.slice lad ln lc,.slice pad pn pc] (Tt.met (Tt.names L)):=fun ub hub=>
      ⟨K6.out.onto k7,row_kept Q6.out k7,row_kept I6.out k7,row_kept X6.out k7,by rw [hub]; exact u7,HQ.out,HI.out,HX.out,by rw [hub]; exact lt_of_block X6.out⟩
     obtain⟨ub,hub⟩:∃ x,x = w6.heap.size:=⟨_,rfl⟩;have S7:=hid (sn7 ub hub);rw [← hub] at m7;have MT:=hid m7;generalize w6.alloc (.cells #[.slice lad ln lc,.slice pad pn pc] 27) = w7 at S7 MT ⊢
     (try rw [← hub])
     clear k7 u7 m7 sn7 hub K6 Q6 I6 X6 M6;refine @wQ _ _ _ _ _ _ _ ?_ ?_;kernel_rfl;intro K hK;go_simp;refine hK _ _ ?_;clear hK K
     go_upto_region 14 with fail
     refine wp_region_lit ?_;refine @wQ _ _ _ _ _ _ _ ?_ ?_;kernel_rfl;intro K hK;go_simp;refine hK _ _ ?_;clear hK K;refine @wpList_load_known _ _ _ _ _ _ _ ?_ 5 (.tmp 47) rfl (xb) (0) rfl (.int .u8 kd) (load_u8_8 ((cell_of_row _ xb 0 _ _ _ S7.out.x).trans HX0.out)) ?_;kernel_rfl
     simp only [Act.put,sA,sB,sC];refine @wQ _ _ _ _ _ _ _ ?_ ?_;kernel_rfl;intro K hK;go_simp
     (try rw [HM4.out])
     (try rw [HM4b.out])
     refine hK _ _ ?_;clear hK K;have HLB:=hid (fun(u:World) (VU:Array Value) (R:List Value) (s:Sn8 w u qb ib xb ub #[.slice lad ln lc,.slice pad pn pc] DX VU R)=>run_loadVar_row u qb 27 27 _ (0,0) _ s.q Tryz.underlying27 rfl treeInfo)
     have HLN1:=hid (fun(u:World) (VU:Array Value) (R:List Value) (s:Sn8 w u qb ib xb ub #[.slice lad ln lc,.slice pad pn pc] DX VU R)=>load_int ((cell_of_row u xb 1 _ _ _ s.x).trans HX1.out))
     have HLK:=hid (fun(u:World) (VU:Array Value) (R:List Value) (s:Sn8 w u qb ib xb ub #[.slice lad ln lc,.slice pad pn pc] DX VU R)=>load_u8_8 ((cell_of_row u xb 3 _ _ _ s.x).trans HX3.out))
     go_upto_block 2 with fail
     go_cut [10] (fun s10 wx=>∃ er:Int,s10 = .int .i64 er∧∃ lad8 n8 lc8 pad8 q8 pc8,∃ R,Hid (Sn8 w wx qb ib xb ub #[.slice lad ln lc,.slice pad pn pc] DX #[.slice lad8 n8 lc8,.slice pad8 q8 pc8] R)∧Hid (Mine (fun k=>k = qb∨k = ib) wx (.slice lad ln lc) (.slice pad pn pc) L P SL)∧Hid (er≠0→R = (Tt.met (Tt.names L)))∧∃ L9 P9 SL9,Hid (er = 0→Tt.right L9 P9 = true∧R = Tt.met (Tt.names L9))∧Hid (Mine (fun k=>k = qb∨k = ib) wx (.slice lad8 n8 lc8) (.slice pad8 q8 pc8) L9 P9 SL9))
     case first=>
      rcases HDI.out with h0 | h0 | h0 | h0
      ·have hk0:(kdi == 0) = true:=by rw [h0]; rfl
       clear h0;obtain⟨L9,hL9⟩:∃ x,x = Tt.putL L l:=⟨_,rfl⟩;obtain⟨P9,hP9⟩:∃ x,x = Tt.putP L P nm:=⟨_,rfl⟩;obtain⟨er,her⟩:∃ x,x = Tt.addErr L nm:=⟨_,rfl⟩;have H1:=hid (HA.out);have NX:=hid (NA.out);rw [← hL9,← hP9,← her] at H1;rw [← hL9,← hP9,← her] at NX;clear hL9 hP9 her HA HB HC HD NA NB NC ND;have S7X:=S7.out
       go_upto_region 16 with fail
       refine wp_region_lit ?_;refine @wpList_load_known _ _ _ _ _ _ _ ?_ 27 (.tmp 3) rfl (qb) (0) rfl (.agg #[.slice lad ln lc,.slice pad pn pc]) (HLB.out _ _ _ S7.out) ?_;kernel_rfl
       simp only [Act.put,sA,sB,sC];refine @wQ _ _ _ _ _ _ _ ?_ ?_;kernel_rfl;intro K hK;go_simp;refine hK _ _ ?_;clear hK K;refine @wpList_load_known _ _ _ _ _ _ _ ?_ 3 (.tmp 54) rfl (xb) (1) rfl (.int .i64 nm) (HLN1.out _ _ _ S7.out) ?_;kernel_rfl
       simp only [Act.put,sA,sB,sC];refine @wpL_buildN _ _ _ _ _ _ _ ?_ 37 _ rfl #[(0,.int .i64 nm)] (by simp only [List.map_toArray,List.map_cons,List.map_nil]; rfl) _ (HBL.out _) ?_;kernel_rfl
       simp only [Act.put,sA,sB,sC];refine @wQ _ _ _ _ _ _ _ ?_ ?_;kernel_rfl;intro K hK;go_simp;go_at_call 11
       refine(H1.out _ w7 MT.out).mono ?_;rintro e w8 ⟨lv8,pv8,rfl,k8,SL8,m8⟩;obtain⟨lad8,lc8,rfl⟩:=m8.lvs.shape;obtain⟨pad8,pc8,rfl⟩:=m8.pts.shape;obtain⟨n8,hn8⟩:∃ n8,n8 = L9.length:=⟨_,rfl⟩;obtain⟨q8,hq8⟩:∃ q8,q8 = P9.length:=⟨_,rfl⟩;rw [← hn8,← hq8] at m8 ⊢;clear hn8 hq8;have S8:=hid (S7.out.kept k8);have MT8:=hid (MT.out.kept k8);have MA8:=hid m8;have HUB:=hid (show ub < w7.heap.size∧qb < w7.heap.size∧ib < w7.heap.size from⟨lt_of_block S7X.u,lt_of_block S7X.q,lt_of_block S7X.i⟩);clear k8 m8 S7X;refine hK _ _ ?_;clear hK K;iterate 4 (refine @wQ _ _ _ _ _ _ _ ?_ ?_;kernel_rfl;intro K hK;go_simp;refine hK _ _ ?_;clear hK K)
       refine wpList_store_row rfl 27 _ _ rfl (ub) #[.slice lad8 n8 lc8,.slice pad8 q8 pc8] rfl rfl 27 #[.slice lad ln lc,.slice pad pn pc] S8.out.u treeInfo rfl (tree_all _ _ _ _ _ _) ?_
       simp only [Act.put];have g9:=grown_setRow w8 ub #[.slice lad8 n8 lc8,.slice pad8 q8 pc8];have S9:=hid (S8.out.setU #[.slice lad8 n8 lc8,.slice pad8 q8 pc8]);have MT9:=hid (MT8.out.aside (b:=ub) (.inr rfl) g9);have MA9:=hid (MA8.out.aside (b:=ub) HUB.out.1 g9);generalize w8.setRow ub #[.slice lad8 n8 lc8,.slice pad8 q8 pc8] = w9 at g9 S9 MT9 MA9 ⊢;clear g9 S8 MT8 MA8;refine @wQ _ _ _ _ _ _ _ ?_ ?_;kernel_rfl;intro K hK;go_simp;refine hK _ _ ?_;clear hK K
       go_upto_region 17 with fail
       refine wp_region_lit ?_;iterate 2 (refine @wQ _ _ _ _ _ _ _ ?_ ?_;kernel_rfl;intro K hK;go_simp;refine hK _ _ ?_;clear hK K)
       by_cases hz:er = 0
       ·have hzb:(er == 0) = true:=by rw [hz]; rfl
        obtain⟨r1,r2,r3⟩:=NX.out hz;obtain⟨jq,hjq⟩:∃ jq:Nat,nm = (jq:Int):=⟨nm.toNat,by omega⟩
        have HJ:=hid hjq;have hj65:jq < 65:=by omega
        have hj1:(jq:Int) < 65:=by omega
        have hj0:¬ (jq:Int) < 0:=by omega
        have HJN:=hid (fun(u:World) (VU:Array Value) (R:List Value) (s:Sn8 w u qb ib xb ub #[.slice lad ln lc,.slice pad pn pc] DX VU R)=>load_int (((cell_of_row u xb 1 _ _ _ s.x).trans HX1.out).trans (by rw [hjq])))
        have HR1:=hid r1;have HR3:=hid (show Tt.met ((jq:Int) :: Tt.names L) = Tt.met (Tt.names L9) from Tt.met_congr (fun k _ _=>by rw [List.mem_cons,r3,hjq]) (fun h=>(List.mem_cons.1 h).elim (fun e=>by omega) (Tt.names_zero L)) (Tt.names_zero L9))
        have HJ65:=hid hj65;have HZ:=hid hz;have hmc:=met_cell S9.out.i jq hj65;have hmf:=cells_free S9.out.i jq;have S9X:=S9.out.setI jq (.bool true);rw [Tt.met_set _ jq hj65,HR3.out] at S9X;have S10:=hid S9X;have g10:=grown_set w9 ib jq (.bool true);have MT10:=hid (MT9.out.aside (b:=ib) (.inl (.inr rfl)) g10);have MA10:=hid (MA9.out.aside (b:=ib) HUB.out.2.2 g10);clear hz r1 r2 r3 hjq hj65 S9X g10
        go_upto_region 18 with fail
        refine wp_region_lit ?_;refine @wQ _ _ _ _ _ _ _ ?_ ?_;kernel_rfl;intro K hK;go_simp;refine hK _ _ ?_;clear hK K;refine @wpList_load_known _ _ _ _ _ _ _ ?_ 3 (.tmp 63) rfl (xb) (1) rfl (.int .i64 (jq:Int)) (HJN.out _ _ _ S9.out) ?_;kernel_rfl
        simp only [Act.put,sA,sB,sC];iterate 2 (refine @wQ _ _ _ _ _ _ _ ?_ ?_;kernel_rfl;intro K hK;go_simp;refine hK _ _ ?_;clear hK K)
        generalize w9.setCell ⟨ib,jq,none⟩ (.bool true) = w10 at S10 MT10 MA10 ⊢;clear hmc hmf S9 MT9 MA9
        go_wp2_with fail
        go_meet
        exact⟨er,rfl,lad8,n8,lc8,pad8,q8,pc8,_,S10,hid (MT10.out.mono (fun _ h=>.inl h)),hid (fun h=>absurd HZ.out h),L9,P9,SL8,hid (fun _=>⟨HR1.out,rfl⟩),hid (MA10.out.mono (fun k h=>h.elim (fun e=>by rw [e]; exact HUB.out.2.1) (fun e=>by rw [e]; exact HUB.out.2.2)))⟩
       ·have hzb:(er == 0) = false:=by rw [beq_eq_false_iff_ne]; exact hz
        have HZ:=hid hz;clear hz
        go_wp2_with fail
        go_meet
        exact⟨er,rfl,lad8,n8,lc8,pad8,q8,pc8,_,S9,hid (MT9.out.mono (fun _ h=>.inl h)),hid (fun _=>rfl),L9,P9,SL8,hid (fun h=>absurd h HZ.out),hid (MA9.out.mono (fun k h=>h.elim (fun e=>by rw [e]; exact HUB.out.2.1) (fun e=>by rw [e]; exact HUB.out.2.2)))⟩
      ·have hk0:(kdi == 0) = false:=by rw [h0]; rfl
       have hk1:(kdi == 1) = true:=by rw [h0]; rfl
       clear h0;obtain⟨L9,hL9⟩:∃ x,x = Tt.renL L pi pub:=⟨_,rfl⟩;obtain⟨P9,hP9⟩:∃ x,x = Tt.renP L P pi:=⟨_,rfl⟩;obtain⟨er,her⟩:∃ x,x = Tt.noneErr L pi:=⟨_,rfl⟩;have H1:=hid (HB.out pi);have NX:=hid (NB.out pi);rw [← hL9,← hP9,← her] at H1;rw [← hL9,← hP9,← her] at NX;clear hL9 hP9 her HA HB HC HD NA NB NC ND;have S7X:=S7.out
       go_upto_region 20 with fail
       refine wp_region_lit ?_;refine @wpList_load_known _ _ _ _ _ _ _ ?_ 27 (.tmp 3) rfl (qb) (0) rfl (.agg #[.slice lad ln lc,.slice pad pn pc]) (HLB.out _ _ _ S7.out) ?_;kernel_rfl
       simp only [Act.put,sA,sB,sC];iterate 2 (refine @wQ _ _ _ _ _ _ _ ?_ ?_;kernel_rfl;intro K hK;go_simp;refine hK _ _ ?_;clear hK K)
       refine @wpList_load_known _ _ _ _ _ _ _ ?_ 5 (.tmp 71) rfl (xb) (3) rfl (.int .u8 kz) (HLK.out _ _ _ S7.out) ?_;kernel_rfl
       simp only [Act.put,sA,sB,sC];refine @wpL_buildN _ _ _ _ _ _ _ ?_ 35 _ rfl #[(0,.int .u8 kz)] (by simp only [List.map_toArray,List.map_cons,List.map_nil]; rfl) _ (HBK.out _) ?_;kernel_rfl
       simp only [Act.put,sA,sB,sC];refine @wQ _ _ _ _ _ _ _ ?_ ?_;kernel_rfl;intro K hK;go_simp;go_at_call 12
       refine(H1.out _ w7 MT.out).mono ?_;rintro e w8 ⟨lv8,pv8,rfl,k8,SL8,m8⟩;obtain⟨lad8,lc8,rfl⟩:=m8.lvs.shape;obtain⟨pad8,pc8,rfl⟩:=m8.pts.shape;obtain⟨n8,hn8⟩:∃ n8,n8 = L9.length:=⟨_,rfl⟩;obtain⟨q8,hq8⟩:∃ q8,q8 = P9.length:=⟨_,rfl⟩;rw [← hn8,← hq8] at m8 ⊢;clear hn8 hq8;have S8:=hid (S7.out.kept k8);have MT8:=hid (MT.out.kept k8);have MA8:=hid m8;have HUB:=hid (show ub < w7.heap.size∧qb < w7.heap.size∧ib < w7.heap.size from⟨lt_of_block S7X.u,lt_of_block S7X.q,lt_of_block S7X.i⟩);clear k8 m8 S7X;refine hK _ _ ?_;clear hK K;iterate 3 (refine @wQ _ _ _ _ _ _ _ ?_ ?_;kernel_rfl;intro K hK;go_simp;refine hK _ _ ?_;clear hK K)
       refine wpList_store_row rfl 27 _ _ rfl (ub) #[.slice lad8 n8 lc8,.slice pad8 q8 pc8] rfl rfl 27 #[.slice lad ln lc,.slice pad pn pc] S8.out.u treeInfo rfl (tree_all _ _ _ _ _ _) ?_
       simp only [Act.put];have g9:=grown_setRow w8 ub #[.slice lad8 n8 lc8,.slice pad8 q8 pc8];have S9:=hid (S8.out.setU #[.slice lad8 n8 lc8,.slice pad8 q8 pc8]);have MT9:=hid (MT8.out.aside (b:=ub) (.inr rfl) g9);have MA9:=hid (MA8.out.aside (b:=ub) HUB.out.1 g9);generalize w8.setRow ub #[.slice lad8 n8 lc8,.slice pad8 q8 pc8] = w9 at g9 S9 MT9 MA9 ⊢;clear g9 S8 MT8 MA8;refine @wQ _ _ _ _ _ _ _ ?_ ?_;kernel_rfl;intro K hK;go_simp;refine hK _ _ ?_;clear hK K
       go_wp2_with fail
       go_meet
       exact⟨er,rfl,lad8,n8,lc8,pad8,q8,pc8,_,S9,hid (MT9.out.mono (fun _ h=>.inl h)),hid (fun _=>rfl),L9,P9,SL8,hid (fun h=>(by obtain⟨r1,r2⟩:=NX.out h; exact⟨r1,Tt.met_congr (fun k _ _=>(r2 _).symm) (Tt.names_zero _) (Tt.names_zero _)⟩)),hid (MA9.out.mono (fun k h=>h.elim (fun e=>by rw [e]; exact HUB.out.2.1) (fun e=>by rw [e]; exact HUB.out.2.2)))⟩
      ·have hk0:(kdi == 0) = false:=by rw [h0]; rfl
       have hk1:(kdi == 1) = false:=by rw [h0]; rfl
       have hk2:(kdi == 2) = true:=by rw [h0]; rfl
       clear h0;obtain⟨L9,hL9⟩:∃ x,x = Tt.outL L pi:=⟨_,rfl⟩;obtain⟨P9,hP9⟩:∃ x,x = Tt.outP L P pi:=⟨_,rfl⟩;obtain⟨er,her⟩:∃ x,x = Tt.noneErr L pi:=⟨_,rfl⟩;have H1:=hid (HC.out pi);have NX:=hid (NC.out pi);rw [← hL9,← hP9,← her] at H1;rw [← hL9,← hP9,← her] at NX;clear hL9 hP9 her HA HB HC HD NA NB NC ND;have S7X:=S7.out
       go_upto_region 22 with fail
       refine wp_region_lit ?_;refine @wpList_load_known _ _ _ _ _ _ _ ?_ 27 (.tmp 3) rfl (qb) (0) rfl (.agg #[.slice lad ln lc,.slice pad pn pc]) (HLB.out _ _ _ S7.out) ?_;kernel_rfl
       simp only [Act.put,sA,sB,sC];refine @wQ _ _ _ _ _ _ _ ?_ ?_;kernel_rfl;intro K hK;go_simp;refine hK _ _ ?_;clear hK K;refine @wQ _ _ _ _ _ _ _ ?_ ?_;kernel_rfl;intro K hK;go_simp;go_at_call 13
       refine(H1.out _ w7 MT.out).mono ?_;rintro e w8 ⟨lv8,pv8,rfl,k8,SL8,m8⟩;obtain⟨lad8,lc8,rfl⟩:=m8.lvs.shape;obtain⟨pad8,pc8,rfl⟩:=m8.pts.shape;obtain⟨n8,hn8⟩:∃ n8,n8 = L9.length:=⟨_,rfl⟩;obtain⟨q8,hq8⟩:∃ q8,q8 = P9.length:=⟨_,rfl⟩;rw [← hn8,← hq8] at m8 ⊢;clear hn8 hq8;have S8:=hid (S7.out.kept k8);have MT8:=hid (MT.out.kept k8);have MA8:=hid m8;have HUB:=hid (show ub < w7.heap.size∧qb < w7.heap.size∧ib < w7.heap.size from⟨lt_of_block S7X.u,lt_of_block S7X.q,lt_of_block S7X.i⟩);clear k8 m8 S7X;refine hK _ _ ?_;clear hK K;iterate 3 (refine @wQ _ _ _ _ _ _ _ ?_ ?_;kernel_rfl;intro K hK;go_simp;refine hK _ _ ?_;clear hK K)
       refine wpList_store_row rfl 27 _ _ rfl (ub) #[.slice lad8 n8 lc8,.slice pad8 q8 pc8] rfl rfl 27 #[.slice lad ln lc,.slice pad pn pc] S8.out.u treeInfo rfl (tree_all _ _ _ _ _ _) ?_
       simp only [Act.put];have g9:=grown_setRow w8 ub #[.slice lad8 n8 lc8,.slice pad8 q8 pc8];have S9:=hid (S8.out.setU #[.slice lad8 n8 lc8,.slice pad8 q8 pc8]);have MT9:=hid (MT8.out.aside (b:=ub) (.inr rfl) g9);have MA9:=hid (MA8.out.aside (b:=ub) HUB.out.1 g9);generalize w8.setRow ub #[.slice lad8 n8 lc8,.slice pad8 q8 pc8] = w9 at g9 S9 MT9 MA9 ⊢;clear g9 S8 MT8 MA8;refine @wQ _ _ _ _ _ _ _ ?_ ?_;kernel_rfl;intro K hK;go_simp;refine hK _ _ ?_;clear hK K
       go_upto_region 23 with fail
       refine wp_region_lit ?_;iterate 2 (refine @wQ _ _ _ _ _ _ _ ?_ ?_;kernel_rfl;intro K hK;go_simp;refine hK _ _ ?_;clear hK K)
       by_cases hz:er = 0
       ·have hzb:(er == 0) = true:=by rw [hz]; rfl
        obtain⟨r1,r2,r3⟩:=NX.out hz;rw [HNQ.out] at r2 r3;have hj65:nq < 65:=by omega
        have hj1:(nq:Int) < 65:=by omega
        have hj0:¬ (nq:Int) < 0:=by omega
        have HR1:=hid r1;have HR3:=hid (show Tt.met ((Tt.names L).filter (fun y=>y != (nq:Int))) = Tt.met (Tt.names L9) from Tt.met_congr (fun k _ _=>by rw [List.mem_filter,r3]; simp) (fun h=>Tt.names_zero L (List.mem_filter.1 h).1) (Tt.names_zero L9))
        have HZ:=hid hz;have hmc:=met_cell S9.out.i nq hj65;have hmf:=cells_free S9.out.i nq;have S9X:=S9.out.setI nq (.bool false);rw [Tt.met_clear _ nq hj65,HR3.out] at S9X;have S10:=hid S9X;have g10:=grown_set w9 ib nq (.bool false);have MT10:=hid (MT9.out.aside (b:=ib) (.inl (.inr rfl)) g10);have MA10:=hid (MA9.out.aside (b:=ib) HUB.out.2.2 g10);clear hz r1 r2 r3 hj65 S9X g10
        go_upto_region 24 with fail
        refine wp_region_lit ?_;iterate 3 (refine @wQ _ _ _ _ _ _ _ ?_ ?_;kernel_rfl;intro K hK;go_simp;refine hK _ _ ?_;clear hK K)
        generalize w9.setCell ⟨ib,nq,none⟩ (.bool false) = w10 at S10 MT10 MA10 ⊢;clear hmc hmf S9 MT9 MA9
        go_wp2_with fail
        go_meet
        exact⟨er,rfl,lad8,n8,lc8,pad8,q8,pc8,_,S10,hid (MT10.out.mono (fun _ h=>.inl h)),hid (fun h=>absurd HZ.out h),L9,P9,SL8,hid (fun _=>⟨HR1.out,rfl⟩),hid (MA10.out.mono (fun k h=>h.elim (fun e=>by rw [e]; exact HUB.out.2.1) (fun e=>by rw [e]; exact HUB.out.2.2)))⟩
       ·have hzb:(er == 0) = false:=by rw [beq_eq_false_iff_ne]; exact hz
        have HZ:=hid hz;clear hz
        go_wp2_with fail
        go_meet
        exact⟨er,rfl,lad8,n8,lc8,pad8,q8,pc8,_,S9,hid (MT9.out.mono (fun _ h=>.inl h)),hid (fun _=>rfl),L9,P9,SL8,hid (fun h=>absurd h HZ.out),hid (MA9.out.mono (fun k h=>h.elim (fun e=>by rw [e]; exact HUB.out.2.1) (fun e=>by rw [e]; exact HUB.out.2.2)))⟩
      ·have hk0:(kdi == 0) = false:=by rw [h0]; rfl
       have hk1:(kdi == 1) = false:=by rw [h0]; rfl
       have hk2:(kdi == 2) = false:=by rw [h0]; rfl
       have hk3:(kdi == 3) = true:=by rw [h0]; rfl
       clear h0;obtain⟨m,hm⟩:=HLEN.out pi;have HKC2:=hid (HKC.out pi m hm.symm);obtain⟨KS,hKS⟩:∃ x,x = Tt.keysOf a9.key m:=⟨_,rfl⟩;rw [← hKS] at HKC2;obtain⟨L9,hL9⟩:∃ x,x = Tt.pathL L P pi pub KS:=⟨_,rfl⟩;obtain⟨P9,hP9⟩:∃ x,x = Tt.pathP L P pi KS:=⟨_,rfl⟩;obtain⟨er,her⟩:∃ x,x = Tt.pathErr L pi KS.length:=⟨_,rfl⟩;have H1:=hid (HD.out pi KS);have NX:=hid (ND.out pi KS);rw [← hL9,← hP9,← her] at H1;rw [← hL9,← hP9,← her] at NX;clear hL9 hP9 her hm hKS HA HB HC HD NA NB NC ND HKC
       go_upto_region 26 with fail
       refine wp_region_noPanic ?_;refine wp_region_held_drew (S:=fun u=>∃ VU R,Sn8 w u qb ib xb ub #[.slice lad ln lc,.slice pad pn pc] DX VU R) (by kernel_rfl) (⟨_,_,S7.out.kept ((Kept.refl _ _ _).drew)⟩) (fun hH=>?_)
       refine wpAnyH_take_at (i:=0) 92 (.agg #[.slice lad ln lc,.slice pad pn pc]) rfl rfl (by kernel_rfl) (by kernel_rfl) (by kernel_rfl) (fun _ _ _ h=>h) (yieldsIf_load_known (by kernel_rfl) 27 _ rfl (qb) (0) rfl (.agg #[.slice lad ln lc,.slice pad pn pc]) (fun u hu=>(by obtain⟨VU9,R9,s9⟩:=hu; exact HLB.out _ _ _ s9))) hH ?_
       simp only [sA,sB,sC];refine wpAnyH_take_ex (i:=1) 93 rfl rfl (by kernel_rfl) (by kernel_rfl) (by kernel_rfl) (fun _ _ _ _ h=>h) (by kernel_rfl) hH ?_
       apply Exists.intro;apply And.intro
       ·intro w9 _
        go_simp
        first | done | rfl
       simp only [sA,sB,sC];refine wpAnyH_take_ex (i:=2) 94 rfl rfl (by kernel_rfl) (by kernel_rfl) (by kernel_rfl) (fun _ _ _ _ h=>h) (by kernel_rfl) hH ?_
       apply Exists.intro;apply And.intro
       ·intro w9 _
        go_simp
        first | done | rfl
       simp only [sA,sB,sC];refine wpAnyH_take_at (i:=3) 95 (.int .u8 kz) rfl rfl (by kernel_rfl) (by kernel_rfl) (by kernel_rfl) (fun _ _ _ h=>h) (yieldsIf_load_known (by kernel_rfl) 5 _ rfl (xb) (3) rfl (.int .u8 kz) (fun u hu=>(by obtain⟨VU9,R9,s9⟩:=hu; exact HLK.out _ _ _ s9))) hH ?_
       simp only [sA,sB,sC];refine wpAnyH_take_at (i:=4) 96 (.agg DP) rfl rfl (by kernel_rfl) (by kernel_rfl) (by kernel_rfl) (fun _ _ _ h=>h) (yieldsIf_buildN8 (by kernel_rfl) 35 #[(0,.tmp 95)] rfl #[(0,.int .u8 kz)] (by simp only [List.map_toArray,List.map_cons,List.map_nil]; rfl) (.agg DP) HBK.out) hH ?_
       simp only [sA,sB,sC];refine wpAnyH_take_at (i:=5) 97 (.agg #[.slice lad ln lc,.slice pad pn pc]) rfl rfl (by kernel_rfl) (by kernel_rfl) (by kernel_rfl) (fun _ _ _ h=>h) (yieldsIf_load_known (by kernel_rfl) 27 _ rfl (qb) (0) rfl (.agg #[.slice lad ln lc,.slice pad pn pc]) (fun u hu=>(by obtain⟨VU9,R9,s9⟩:=hu; exact HLB.out _ _ _ s9))) hH ?_
       simp only [sA,sB,sC];refine wpAnyH_take_ex (i:=6) 98 rfl rfl (by kernel_rfl) (by kernel_rfl) (by kernel_rfl) (fun _ _ _ _ h=>h) (by kernel_rfl) hH ?_
       apply Exists.intro;apply And.intro
       ·intro w9 _
        go_simp
        first | done | rfl
       simp only [sA,sB,sC];refine wpAnyH_take_ex (i:=7) 99 rfl rfl (by kernel_rfl) (by kernel_rfl) (by kernel_rfl) (fun _ _ _ _ h=>h) (by kernel_rfl) hH ?_
       apply Exists.intro;apply And.intro
       ·intro w9 _
        go_simp
        first | done | rfl
       simp only [sA,sB,sC];refine wpAnyH_take_at (i:=8) 100 (.int .u8 kz) rfl rfl (by kernel_rfl) (by kernel_rfl) (by kernel_rfl) (fun _ _ _ h=>h) (yieldsIf_load_known (by kernel_rfl) 5 _ rfl (xb) (3) rfl (.int .u8 kz) (fun u hu=>(by obtain⟨VU9,R9,s9⟩:=hu; exact HLK.out _ _ _ s9))) hH ?_
       simp only [sA,sB,sC];refine wpAnyH_ready (rs:=[9]) (by kernel_rfl) (by simp) ?_
       refine AllReadyH.cons rfl (fun K hK=>?_) AllReadyH.nil
       rw [if_pos (by rfl)]
       go_simp
       go_wp2_with (go_at_call 21; refine(HKC2.out _).mono ?_; rintro e vk ⟨kv,rfl,okv,kvk⟩)
       obtain⟨kad,kc,rfl⟩:=ownh_shape okv;have SK:=S7.out.kept ((Kept.refl _ _ _).drew.onto kvk);have HSK:=okv.hs;refine hK.out _ _ ⟨_,_,SK⟩ (fun hH=>?_)
       clear hK K okv;refine wpAnyH_ready (rs:=[10]) (by kernel_rfl) (by simp) ?_
       refine AllReadyH.cons rfl (fun K hK=>?_) AllReadyH.nil
       rw [if_pos (by rfl)]
       go_simp
       go_wp2_with (go_at_call 14; refine(H1.out _ vk (MT.out.kept ((Kept.refl _ _ _).drew.onto kvk)) SK.k _ HSK).mono ?_; rintro e w8 ⟨lv8,pv8,rfl,k8,SL8,m8⟩)
       have k7v:=(Kept.refl w7.heap.size w7.heap.size w7).drew.onto kvk;obtain⟨lad8,lc8,rfl⟩:=m8.lvs.shape;obtain⟨pad8,pc8,rfl⟩:=m8.pts.shape;obtain⟨n8,hn8⟩:∃ n8,n8 = L9.length:=⟨_,rfl⟩;obtain⟨q8,hq8⟩:∃ q8,q8 = P9.length:=⟨_,rfl⟩;rw [← hn8,← hq8] at m8 ⊢;clear hn8 hq8;have S8:=hid (S7.out.kept (k7v.onto k8));have MT8:=hid (MT.out.kept (k7v.onto k8));have MA8:=hid m8;have HUB:=hid (show ub < vk.heap.size∧qb < vk.heap.size∧ib < vk.heap.size from⟨lt_of_block SK.u,lt_of_block SK.q,lt_of_block SK.i⟩);clear k8 m8 k7v SK HSK kvk;refine hK.out _ _ ⟨_,_,S8.out⟩ (fun hH=>?_)
       clear hK K;refine wpAnyH_take_ex (i:=11) 91 rfl rfl (by kernel_rfl) (by kernel_rfl) (by kernel_rfl) (fun _ _ _ _ h=>h) (by kernel_rfl) hH ?_
       apply Exists.intro;apply And.intro
       ·intro w9 _
        go_simp
        first | done | rfl
       simp only [sA,sB,sC];refine wpAnyH_take_ex (i:=12) 103 rfl rfl (by kernel_rfl) (by kernel_rfl) (by kernel_rfl) (fun _ _ _ _ h=>h) (by kernel_rfl) hH ?_
       apply Exists.intro;apply And.intro
       ·intro w9 _
        go_simp
        first | done | rfl
       simp only [sA,sB,sC];refine wpAnyH_take_ex (i:=13) 104 rfl rfl (by kernel_rfl) (by kernel_rfl) (by kernel_rfl) (fun _ _ _ _ h=>h) (by kernel_rfl) hH ?_
       apply Exists.intro;apply And.intro
       ·intro w9 _
        go_simp
        first | done | rfl
       simp only [sA,sB,sC];refine wpAnyH_ready (rs:=[14]) (by kernel_rfl) (by simp) ?_
       refine AllReadyH.cons rfl (fun K hK=>?_) AllReadyH.nil
       rw [if_pos (by rfl)]
       refine wp_store_row_none11 27 _ _ rfl rfl ub #[.slice lad8 n8 lc8,.slice pad8 q8 pc8] rfl rfl 27 #[.slice lad ln lc,.slice pad pn pc] S8.out.u treeInfo rfl (tree_all _ _ _ _ _ _) ?_
       have g9:=grown_setRow w8 ub #[.slice lad8 n8 lc8,.slice pad8 q8 pc8];have S9:=hid (S8.out.setU #[.slice lad8 n8 lc8,.slice pad8 q8 pc8]);have MT9:=hid (MT8.out.aside (b:=ub) (.inr rfl) g9);have MA9:=hid (MA8.out.aside (b:=ub) HUB.out.1 g9);generalize w8.setRow ub #[.slice lad8 n8 lc8,.slice pad8 q8 pc8] = w9 at g9 S9 MT9 MA9 ⊢;clear g9 S8 MT8 MA8;refine hK.out _ _ ⟨_,_,S9.out⟩ (fun hH=>?_)
       clear hK K;refine wpAnyH_take_ex (i:=15) 10 rfl rfl (by kernel_rfl) (by kernel_rfl) (by kernel_rfl) (fun _ _ _ _ h=>h) (by kernel_rfl) hH ?_
       apply Exists.intro;apply And.intro
       ·intro w9 _
        go_simp
        first | done | rfl
       simp only [sA,sB,sC];refine wpAnyH_done (by kernel_rfl) ?_ _
       refine NoPanic.normal ?_
       go_wp2_with fail
       go_meet
       exact⟨er,rfl,lad8,n8,lc8,pad8,q8,pc8,_,S9,hid (MT9.out.mono (fun _ h=>.inl h)),hid (fun _=>rfl),L9,P9,SL8,hid (fun h=>(by obtain⟨r1,r2⟩:=NX.out h; exact⟨r1,Tt.met_congr (fun k _ _=>(r2 _).symm) (Tt.names_zero _) (Tt.names_zero _)⟩)),hid (MA9.out.mono (fun k h=>h.elim (fun e=>by rw [e]; exact HUB.out.2.1) (fun e=>by rw [e]; exact HUB.out.2.2)))⟩
     case rest=>
      obtain⟨er,rfl,lad8,n8,lc8,pad8,q8,pc8,R,S9,MT9,HNE,L9,P9,SL9,HEQ,MA9⟩:=hcut
      go_upto_region 27 with fail
      refine wp_region_lit ?_;iterate 2 (refine @wQ _ _ _ _ _ _ _ ?_ ?_;kernel_rfl;intro K hK;go_simp;refine hK _ _ ?_;clear hK K)
      go_upto_if 106 with fail
      go_cut [10] (fun s10 wx=>s10 = .int .i64 er∧Hid (Kept w.heap.size w.heap.size w wx)∧∃ tad tn tc sad sn sc,Hid (wx.heap[qb]? = some (.cells #[.slice tad tn tc,.slice sad sn sc] 27 (0,0)))∧∃ L5 P5 SL5,Hid (Tt.right L5 P5 = true)∧Hid (wx.heap[ib]? = some (.cells (Tt.met (Tt.names L5)).toArray 53 (0,0)))∧Hid (Mine (fun k=>k = qb∨k = ib) wx (.slice tad tn tc) (.slice sad sn sc) L5 P5 SL5))
      case first=>
       by_cases hz:er = 0
       ·have hzb:(er == 0) = true:=by rw [hz]; rfl
        obtain⟨r1,r2⟩:=HEQ.out hz;subst r2;have HR1:=hid r1;clear hz r1
        go_upto_region 28 with fail
        refine wp_region_lit ?_;refine @wpList_load_known _ _ _ _ _ _ _ ?_ 27 (.tmp 9) rfl (ub) (0) rfl (.agg #[.slice lad8 n8 lc8,.slice pad8 q8 pc8]) (run_loadVar_row _ ub 27 27 _ (0,0) _ S9.out.u Tryz.underlying27 rfl treeInfo) ?_;kernel_rfl
        simp only [Act.put,sA,sB,sC];refine wpList_store_row rfl 27 _ _ rfl (qb) #[.slice lad8 n8 lc8,.slice pad8 q8 pc8] rfl rfl 27 #[.slice lad ln lc,.slice pad pn pc] S9.out.q treeInfo rfl (tree_all _ _ _ _ _ _) ?_
        simp only [Act.put];have S10:=S9.out.setQ #[.slice lad8 n8 lc8,.slice pad8 q8 pc8];have g10:=grown_setRow wc qb #[.slice lad8 n8 lc8,.slice pad8 q8 pc8];have ma9:=MA9.out;have hbq:qb = qb∨qb = ib:=Or.inl rfl;have M10:=Mine.aside (b:=qb) ma9 hbq g10;clear ma9 hbq;generalize wc.setRow qb #[.slice lad8 n8 lc8,.slice pad8 q8 pc8] = wy at S10 M10 ⊢
        go_wp2_with fail
        go_meet
        exact⟨rfl,hid S10.k,_,_,_,_,_,_,hid S10.q,L9,P9,SL9,HR1,hid S10.i,hid M10⟩
       ·have hzb:(er == 0) = false:=by rw [beq_eq_false_iff_ne]; exact hz
        have r2:=HNE.out hz;subst r2;clear hz
        go_wp2_with fail
        go_meet
        exact⟨rfl,hid S9.out.k,_,_,_,_,_,_,hid S9.out.q,L,P,SL,HR,hid S9.out.i,MT9⟩
      case rest=>
       obtain⟨rfl,KX,tad,tn,tc,sad,sn,sc,QX,L5,P5,SL5,HR5,IX,MX⟩:=hcut;have HN5:=hid (show L5.length≤1000 by have:=(Tt.right_parts HR5.out).1; omega)
       have HP5:=hid (show P5.length≤1000 by have:=(Tt.right_parts HR5.out).1; have:=(Tt.right_parts HR5.out).2.1; omega)
       have HPLC:=hid (fun(y:Int) (u:World) (k:Kept wc.heap.size wc.heap.size wc u)=>place_calls8 _ _ L5 P5 y u (MX.out.kept k).lvs (MX.out.kept k).pts HN5.out HP5.out (Tt.right_loose667 HR5.out))
       have HNMC:=hid (fun(u:World) (k:Kept wc.heap.size wc.heap.size wc u)=>names_calls _ _ L5 P5 u (MX.out.kept k).lvs (MX.out.kept k).pts HN5.out HP5.out (Tt.right_loose667 HR5.out) HR5.out)
       have HLQ5:=hid (fun(u:World) (k:Kept wc.heap.size wc.heap.size wc u)=>run_loadVar_row u qb 27 27 _ (0,0) _ (row_kept QX.out k) Tryz.underlying27 rfl treeInfo)
       have HLI5:=hid (fun(j:Nat) (hj:j < 65) (u:World) (k:Kept wc.heap.size wc.heap.size wc u)=>load_bool (met_cell (row_kept IX.out k) j hj))
       clear HEQ HNE S9 MT9 MA9
       go_upto_region 30 with fail
       refine wp_region_lit ?_;refine @wQ _ _ _ _ _ _ _ ?_ ?_;kernel_rfl;intro K hK;go_simp;refine hK _ _ ?_;clear hK K;go_wp2
       go_loopw [11,12] (fun s11 s12 wz=>∃ k:Nat,s11 = .int .i64 ((Tt.rnamesTo L5 k).length:Int)∧s12 = .int .i64 ((k + 1:Nat):Int)∧Hid (k≤64)∧Hid (Kept wc.heap.size wc.heap.size wc wz)) (fun _ s12 _=>65 - (RowKit.intOf s12).toNat)
       case atStart=>exact⟨0,rfl,rfl,hid (Nat.zero_le _),hid (Kept.refl _ _ _)⟩
       case round=>
        obtain⟨k,rfl,rfl,hk,KZ⟩:=hrel;obtain⟨k1,hk1⟩:∃ x,x = k + 1:=⟨_,rfl⟩;rw [← hk1];obtain⟨c,hc⟩:∃ c,c = (Tt.rnamesTo L5 k).length:=⟨_,rfl⟩;rw [← hc]
        by_cases hlt:k < 64
        ·have hle:(k1:Int)≤64:=by omega
         have hk65:(k1:Int) < 65:=by omega
         have hk0:¬ (k1:Int) < 0:=by omega
         obtain⟨hp1,hp2⟩:=Tt.place_has HR5.out (k:=k1) (by omega)
         have hnx:(Tt.rnamesTo L5 k1).length = if (Tt.names L5).contains (k1:Int) then c + 1 else c:=by
          rw [hk1,Tt.rnamesTo,← hk1]
          by_cases hh:(k1:Int)∈Tt.names L5
          ·rw [if_pos (hp2.2 hh),if_pos (List.contains_iff_mem.2 hh),List.length_append,List.length_singleton,hc]
          ·rw [if_neg (fun e=>hh (hp2.1 e)),if_neg (fun e=>hh (List.contains_iff_mem.1 e)),hc]
         obtain⟨pl,hpl⟩:∃ x,x = Tt.place L5 P5 (k1:Int):=⟨_,rfl⟩;have HPL1:=hid (HPLC.out (k1:Int));have HLI1:=hid (HLI5.out k1 (by omega))
         rw [← hpl] at HPL1 hp1;have hcl:(c:Int)≤64:=by have:=Tt.rnamesTo_length L5 k; omega
         have hw1:IntKind.i64.wrap ((k1:Int) + 1) = ((k1 + 1:Nat):Int):=by rw [show(k1:Int) + 1 = ((k1 + 1:Nat):Int) by omega]; exact wrap_small _ (by omega) (by omega)
         have hw2:IntKind.i64.wrap ((c:Int) + 1) = ((c + 1:Nat):Int):=by rw [show(c:Int) + 1 = ((c + 1:Nat):Int) by omega]; exact wrap_small _ (by omega) (by omega)
         have HW1:=hid hw1;have HW2:=hid hw2;have HK1:=hid hk1;have HKL:=hid hlt;have HNXT:=hid hnx;clear hlt hk hk1 hc hpl hnx hw1 hw2 hp2
         cases hb:(Tt.names L5).contains (k1:Int) with
         | true=>
          rw [hb] at hp1 HLI1 HNXT;clear hb
          go_upto_region 33 with fail
          have KD:Kept wc.heap.size wc.heap.size wc wr.drew:=KZ.out.drew;refine wp_region_noPanic ?_;refine wp_region_held_drew (S:=fun u=>Kept wc.heap.size wc.heap.size wc u) (by kernel_rfl) (KD) (fun hH=>?_)
          refine wpAnyH_take_ex (i:=0) 112 rfl rfl (by kernel_rfl) (by kernel_rfl) (by kernel_rfl) (fun _ _ _ _ h=>h) (by kernel_rfl) hH ?_
          apply Exists.intro;apply And.intro
          ·intro w9 _
           go_simp
           first | done | rfl
          simp only [sA,sB,sC];refine wpAnyH_take_ex (i:=1) 113 rfl rfl (by kernel_rfl) (by kernel_rfl) (by kernel_rfl) (fun _ _ _ _ h=>h) (by kernel_rfl) hH ?_
          apply Exists.intro;apply And.intro
          ·intro w9 _
           go_simp
           first | done | rfl
          simp only [sA,sB,sC];refine wpAnyH_take_at (i:=2) 114 (.bool true) rfl rfl (by kernel_rfl) (by kernel_rfl) (by kernel_rfl) (fun _ _ _ h=>h) (yieldsIf_load_known (by kernel_rfl) 4 _ rfl (ib) (k1) rfl (.bool true) (fun u hu=>HLI1.out u hu)) hH ?_
          simp only [sA,sB,sC];refine wpAnyH_take_at (i:=3) 115 (.agg #[.slice tad tn tc,.slice sad sn sc]) rfl rfl (by kernel_rfl) (by kernel_rfl) (by kernel_rfl) (fun _ _ _ h=>h) (yieldsIf_load_known (by kernel_rfl) 27 _ rfl (qb) (0) rfl (.agg #[.slice tad tn tc,.slice sad sn sc]) (fun u hu=>HLQ5.out u hu)) hH ?_
          simp only [sA,sB,sC];refine wpAnyH_take_ex (i:=4) 116 rfl rfl (by kernel_rfl) (by kernel_rfl) (by kernel_rfl) (fun _ _ _ _ h=>h) (by kernel_rfl) hH ?_
          apply Exists.intro;apply And.intro
          ·intro w9 _
           go_simp
           first | done | rfl
          simp only [sA,sB,sC];refine wpAnyH_ready (rs:=[5]) (by kernel_rfl) (by simp) ?_
          refine AllReadyH.cons rfl (fun K hK=>?_) AllReadyH.nil
          rw [if_pos (by rfl)]
          go_simp
          go_wp2_with (go_at_call 22; refine(HPL1.out _ KD).mono ?_; rintro e wv ⟨rfl,kv⟩)
          have KE:=KD.onto kv;refine hK.out _ _ KE (fun hH=>?_)
          clear hK K kv;refine wpAnyH_take_ex (i:=6) 118 rfl rfl (by kernel_rfl) (by kernel_rfl) (by kernel_rfl) (fun _ _ _ _ h=>h) (by kernel_rfl) hH ?_
          apply Exists.intro;apply And.intro
          ·intro w9 _
           go_simp
           first | done | rfl
          simp only [sA,sB,sC];refine wpAnyH_take_ex (i:=7) 119 rfl rfl (by kernel_rfl) (by kernel_rfl) (by kernel_rfl) (fun _ _ _ _ h=>h) (by kernel_rfl) hH ?_
          apply Exists.intro;apply And.intro
          ·intro w9 _
           go_simp
           first | done | rfl
          simp only [sA,sB,sC];refine wpAnyH_done (by kernel_rfl) ?_ _
          refine NoPanic.normal ?_;clear hH KD
          go_upto_region 35 with fail
          refine wp_region_lit ?_;iterate 2 (refine @wQ _ _ _ _ _ _ _ ?_ ?_;kernel_rfl;intro K hK;go_simp;refine hK _ _ ?_;clear hK K)
          refine @wpList_load_known _ _ _ _ _ _ _ ?_ 4 (.tmp 121) rfl (ib) (k1) rfl (.bool true) (HLI1.out _ KE) ?_;kernel_rfl
          simp only [Act.put,sA,sB,sC]
          go_upto_region 36 with fail
          refine wp_region_lit ?_;refine @wQ _ _ _ _ _ _ _ ?_ ?_;kernel_rfl;intro K hK;go_simp;refine hK _ _ ?_;clear hK K
          (try rw [HW2.out])
          iterate 2 (refine @wQ _ _ _ _ _ _ _ ?_ ?_;kernel_rfl;intro K hK;go_simp;refine hK _ _ ?_;clear hK K)
          go_upto_region 32 with fail
          refine wp_region_lit ?_;refine @wQ _ _ _ _ _ _ _ ?_ ?_;kernel_rfl;intro K hK;go_simp;refine hK _ _ ?_;clear hK K;refine @wQ _ _ _ _ _ _ _ ?_ ?_;kernel_rfl;intro K hK;go_simp
          (try rw [HW1.out])
          refine hK _ _ ?_;clear hK K
          (try rw [HW1.out])
          refine @wQ _ _ _ _ _ _ _ ?_ ?_;kernel_rfl;intro K hK;go_simp;refine hK _ _ ?_;clear hK K;have KV:=hid KE;clear KE;go_wp2
          go_roundw
          case rel=>exact⟨k1,(by rw [HNXT.out]; first | rfl | (simp only [HW2.out,if_true]; done) | (simp only [if_false]; done) | (rw [HW2.out]; simp; done) | simp),rfl,hid (by have:=HK1.out; have:=HKL.out; omega),KV⟩
          case measure=>have:=HK1.out; have:=HKL.out; simp [RowKit.intOf]; omega
         | false=>
          rw [hb] at hp1 HLI1 HNXT;clear hb
          go_upto_region 33 with fail
          have KD:Kept wc.heap.size wc.heap.size wc wr.drew:=KZ.out.drew;refine wp_region_noPanic ?_;refine wp_region_held_drew (S:=fun u=>Kept wc.heap.size wc.heap.size wc u) (by kernel_rfl) (KD) (fun hH=>?_)
          refine wpAnyH_take_ex (i:=0) 112 rfl rfl (by kernel_rfl) (by kernel_rfl) (by kernel_rfl) (fun _ _ _ _ h=>h) (by kernel_rfl) hH ?_
          apply Exists.intro;apply And.intro
          ·intro w9 _
           go_simp
           first | done | rfl
          simp only [sA,sB,sC];refine wpAnyH_take_ex (i:=1) 113 rfl rfl (by kernel_rfl) (by kernel_rfl) (by kernel_rfl) (fun _ _ _ _ h=>h) (by kernel_rfl) hH ?_
          apply Exists.intro;apply And.intro
          ·intro w9 _
           go_simp
           first | done | rfl
          simp only [sA,sB,sC];refine wpAnyH_take_at (i:=2) 114 (.bool false) rfl rfl (by kernel_rfl) (by kernel_rfl) (by kernel_rfl) (fun _ _ _ h=>h) (yieldsIf_load_known (by kernel_rfl) 4 _ rfl (ib) (k1) rfl (.bool false) (fun u hu=>HLI1.out u hu)) hH ?_
          simp only [sA,sB,sC];refine wpAnyH_take_at (i:=3) 115 (.agg #[.slice tad tn tc,.slice sad sn sc]) rfl rfl (by kernel_rfl) (by kernel_rfl) (by kernel_rfl) (fun _ _ _ h=>h) (yieldsIf_load_known (by kernel_rfl) 27 _ rfl (qb) (0) rfl (.agg #[.slice tad tn tc,.slice sad sn sc]) (fun u hu=>HLQ5.out u hu)) hH ?_
          simp only [sA,sB,sC];refine wpAnyH_take_ex (i:=4) 116 rfl rfl (by kernel_rfl) (by kernel_rfl) (by kernel_rfl) (fun _ _ _ _ h=>h) (by kernel_rfl) hH ?_
          apply Exists.intro;apply And.intro
          ·intro w9 _
           go_simp
           first | done | rfl
          simp only [sA,sB,sC];refine wpAnyH_ready (rs:=[5]) (by kernel_rfl) (by simp) ?_
          refine AllReadyH.cons rfl (fun K hK=>?_) AllReadyH.nil
          rw [if_pos (by rfl)]
          go_simp
          go_wp2_with (go_at_call 22; refine(HPL1.out _ KD).mono ?_; rintro e wv ⟨rfl,kv⟩)
          have KE:=KD.onto kv;refine hK.out _ _ KE (fun hH=>?_)
          clear hK K kv;refine wpAnyH_take_ex (i:=6) 118 rfl rfl (by kernel_rfl) (by kernel_rfl) (by kernel_rfl) (fun _ _ _ _ h=>h) (by kernel_rfl) hH ?_
          apply Exists.intro;apply And.intro
          ·intro w9 _
           go_simp
           first | done | rfl
          simp only [sA,sB,sC];refine wpAnyH_take_ex (i:=7) 119 rfl rfl (by kernel_rfl) (by kernel_rfl) (by kernel_rfl) (fun _ _ _ _ h=>h) (by kernel_rfl) hH ?_
          apply Exists.intro;apply And.intro
          ·intro w9 _
           go_simp
           first | done | rfl
          simp only [sA,sB,sC];refine wpAnyH_done (by kernel_rfl) ?_ _
          refine NoPanic.normal ?_;clear hH KD
          go_upto_region 35 with fail
          refine wp_region_lit ?_;iterate 2 (refine @wQ _ _ _ _ _ _ _ ?_ ?_;kernel_rfl;intro K hK;go_simp;refine hK _ _ ?_;clear hK K)
          refine @wpList_load_known _ _ _ _ _ _ _ ?_ 4 (.tmp 121) rfl (ib) (k1) rfl (.bool false) (HLI1.out _ KE) ?_;kernel_rfl
          simp only [Act.put,sA,sB,sC]
          go_upto_region 32 with fail
          refine wp_region_lit ?_;refine @wQ _ _ _ _ _ _ _ ?_ ?_;kernel_rfl;intro K hK;go_simp;refine hK _ _ ?_;clear hK K;refine @wQ _ _ _ _ _ _ _ ?_ ?_;kernel_rfl;intro K hK;go_simp
          (try rw [HW1.out])
          refine hK _ _ ?_;clear hK K
          (try rw [HW1.out])
          refine @wQ _ _ _ _ _ _ _ ?_ ?_;kernel_rfl;intro K hK;go_simp;refine hK _ _ ?_;clear hK K;have KV:=hid KE;clear KE;go_wp2
          go_roundw
          case rel=>exact⟨k1,(by rw [HNXT.out]; first | rfl | (simp only [HW2.out,if_true]; done) | (simp only [if_false]; done) | (rw [HW2.out]; simp; done) | simp),rfl,hid (by have:=HK1.out; have:=HKL.out; omega),KV⟩
          case measure=>have:=HK1.out; have:=HKL.out; simp [RowKit.intOf]; omega
        ·have hnle:¬ (k1:Int)≤64:=by omega
         have hk64:k = 64:=by have:=hk.out; omega
         have HC:=hid (show(sortI (Tt.names L5)).length = c by rw [Tt.names_same HR5.out,hc,hk64]; rfl)
         clear hlt hk hk1 hc hk64
         go_upto_region 37 with fail
         refine wp_region_lit ?_;refine @wpList_load_known _ _ _ _ _ _ _ ?_ 27 (.tmp 3) rfl (qb) (0) rfl (.agg #[.slice tad tn tc,.slice sad sn sc]) (HLQ5.out _ KZ.out) ?_;kernel_rfl
         simp only [Act.put,sA,sB,sC];refine @wQ _ _ _ _ _ _ _ ?_ ?_;kernel_rfl;intro K hK;go_simp;go_at_call 23
         refine(HNMC.out _ KZ.out).mono ?_;rintro e wn ⟨vn,rfl,hvn,kn⟩;obtain⟨nad,nc9,rfl⟩:=(ints_nums hvn).shape;rw [HC.out];have KN:=hid (KX.out.onto (KZ.out.onto kn));have QN:=hid (row_kept QX.out (KZ.out.onto kn));have IN:=hid (row_kept IX.out (KZ.out.onto kn));have MN:=hid (MX.out.kept (KZ.out.onto kn));clear hvn kn;refine hK _ _ ?_;clear hK K;iterate 3 (refine @wQ _ _ _ _ _ _ _ ?_ ?_;kernel_rfl;intro K hK;go_simp;refine hK _ _ ?_;clear hK K)
         have hi9:=HLT.out;have ha9:=HA9.out;have hw64:IntKind.i64.wrap ((i:Int) + 1) = (i:Int) + 1:=wrap_small _ (by omega) (by omega)
         go_wp2
         go_roundw
         case rel=>exact⟨i + 1,(by have h2:=HLT.out; go_num),hid HLT.out,KN,_,_,_,_,_,_,QN,L5,P5,SL5,HR5,IN,MN⟩
         case measure=>have h2:=HLT.out; simp [RowKit.intOf]; omega
   ·have hnl:¬ (i:Int) < (an:Int):=by omega
    clear hlt hi
    go_upto_region 39 with fail
    refine wp_region_lit ?_;refine @wQ _ _ _ _ _ _ _ ?_ ?_;kernel_rfl;intro K hK;go_simp;refine hK _ _ ?_;clear hK K;go_wp2;go_ret;exact⟨rfl,HK.out⟩
end Go.Proofs.YtaobiofngnfdiaaGreatDoor
