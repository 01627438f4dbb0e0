/-
 A step of a play: what is done to a tree by the program and by the document, compared; and what is left is right.
-/
import Derived.Test.YtaobiofngnfdiaaGreatDoorHO
import Derived.Test.YtaobiofngnfdiaaGreatDoorHM
import Derived.Test.YtaobiofngnfdiaaGreatDoorTreeSame
set_option maxRecDepth 100000
set_option maxHeartbeats 6400000
namespace Go.Proofs.YtaobiofngnfdiaaGreatDoor
open Go.RowKit Go.Lib
open List renaming setIfInBounds_toArray → sA, set_cons_zero → sB, set_cons_succ → sC
open BigFrame renaming wpList_want → wQ
theorem Tt.right_loose668 {L:List Lf}{P:List Pr}(h:Tt.right L P = true):∀ p∈P,p.loose.length≤66:=fun p hp=>by
 obtain⟨h1,_,h3⟩:=Tt.right_parts h;exact Nat.le_trans (Tt.parents_loose h1 P 0 h3 p hp) (by decide)
theorem mod_u8 (x:UInt8)(n:Nat)(h:1≤n∧n≤255):∃ y:UInt8,IntKind.u8.wrap ((x.toNat:Int).tmod (n:Int)) = (y.toNat:Int)∧(x.toNat:Int).tmod (n:Int) = (y.toNat:Int)∧y.toNat < n:=by
 obtain⟨r,hr⟩:∃ r,r = x.toNat % n:=⟨_,rfl⟩
 have h1:(x.toNat:Int).tmod (n:Int) = (r:Int):=by
  rw [hr,Int.tmod_eq_emod_of_nonneg (Int.natCast_nonneg _)]
  rfl
 have h2:r < n:=by rw [hr]; exact Nat.mod_lt _ (by omega)
 have h3:(UInt8.ofNat r).toNat = r:=by rw [UInt8.toNat_ofNat']; exact Nat.mod_eq_of_lt (by omega)
 refine⟨UInt8.ofNat r,?_,?_,?_⟩
 ·rw [h1,h3]
  show(r:Int) % 256 = _;exact Int.emod_eq_of_lt (Int.natCast_nonneg _) (by omega)
 ·rw [h1,h3]
 ·rw [h3]; exact h2
theorem step_calls8 (B0:Nat→Prop)(lv pv:Value)(L:List Lf)(P:List Pr)(SL:List Value)(a:Ac8)(w:World)(hM:Mine B0 w lv pv L P SL)(hr:Tt.right L P = true)(ht:Tab w):
  Calls Tryz.prog 8 #[.agg #[lv,pv],.agg a.cells.toArray] w fun e w'=>∃ lv' pv',e = .returned (.tuple #[.agg #[lv',pv'],.bool true])∧Kept w.heap.size w.heap.size w w'∧∃ L' P',Tt.right L' P' = true∧∃ SL',Mine B0 w' lv' pv' L' P' SL':=by
 obtain⟨h64,hpe,_⟩:=Tt.right_parts hr;have hn:L.length≤1000:=by omega
 have hp:P.length≤1000:=by omega
 have hpl:∀ p∈P,p.loose.length≤1000:=fun p h=>Nat.le_trans (Tt.right_loose668 hr p h) (by decide)
 have HPL:=hid (Tt.right_loose668 hr);have HN:=hid hn;have HPP:=hid hp;obtain⟨k3,hk3,hk3b,_⟩:=mod_u8 a.key 3 ⟨by decide,by decide⟩
 obtain⟨kd4,hkd,hkdb,hkd4⟩:=mod_u8 a.kind 4 ⟨by decide,by decide⟩
 have hlo:=actLeaf_ok a k3;obtain⟨l,hl⟩:∃ l,l = actLeaf a k3:=⟨_,rfl⟩;rw [← hl] at hlo;have HLO:=hid hlo;have HCP:=hid (fun(B:Nat→Prop) (u:World) (m:Mine B u lv pv L P SL)=>refcopy_calls lv pv L P u m.lvs m.pts hn hp hpl)
 have HTW:=hid ht;have HB0:=hid hM.bnd;have HRR:=hid hr;have HA:=hid (fun(B:Nat→Prop) (u:World) (m:Mine B u lv pv L P SL)=>add_any lv pv L P l hlo u m.lvs m.pts hpl hr)
 have XA:=hid (fun(B:Nat→Prop) (u:World) (m:Mine B u lv pv L P SL)=>refadd_any lv pv L P l hlo u m.lvs m.pts hpl hr)
 have HB:=hid (fun(x:Int) (B:Nat→Prop) (u:World) (m:Mine B u lv pv L P SL)=>renew_any lv pv L P x u m.lvs m.pts hpl hr l.pub hlo.1)
 have XB:=hid (fun(x:Int) (B:Nat→Prop) (u:World) (m:Mine B u lv pv L P SL)=>refrenew_any lv pv L P x u m.lvs m.pts hpl hr l.pub hlo.1)
 have HC:=hid (fun(x:Int) (B:Nat→Prop) (u:World) (m:Mine B u lv pv L P SL)=>remove_any lv pv L P x u m.lvs m.pts hpl hr)
 have XC:=hid (fun(x:Int) (B:Nat→Prop) (u:World) (m:Mine B u lv pv L P SL)=>refremove_any lv pv L P x u m.lvs m.pts hpl hr)
 have HD:=hid (fun(x:Int) (ks:List (List UInt8)) (B:Nat→Prop) (u:World) (m:Mine B u lv pv L P SL) (kk:Kept w.heap.size w.heap.size w u) (kv:Value) (hK:Hs u kv ks)=>path_any lv pv L P x l.pub hlo.1 kv ks u m.lvs m.pts hpl hr hK (HTW.out.ontoP kk))
 have XD:=hid (fun(x:Int) (ks:List (List UInt8)) (B:Nat→Prop) (u:World) (m:Mine B u lv pv L P SL) (kv:Value) (hK:Hs u kv ks)=>refpath_any lv pv L P x l.pub hlo.1 kv ks u m.lvs m.pts hpl hr hK)
 have NA:=hid (show(Tt.putL L l).length≤1000∧(Tt.putP L P l.name).length≤1000∧(∀ p∈Tt.putP L P l.name,p.loose.length≤66)∧(Tt.addErr L l.name = 0→Tt.right (Tt.putL L l) (Tt.putP L P l.name) = true) from⟨Nat.le_trans (Tt.putL_length L l) (by omega),Nat.le_trans (Tt.putP_length L P l.name) (by omega),Tt.putP_loose hr l.name,Tt.add_right hr l⟩)
 have NB:=hid (fun(x:Int)=>show(Tt.renL L x l.pub).length≤1000∧(Tt.renP L P x).length≤1000∧(∀ p∈Tt.renP L P x,p.loose.length≤66)∧(Tt.noneErr L x = 0→Tt.right (Tt.renL L x l.pub) (Tt.renP L P x) = true) from⟨Nat.le_trans (Tt.renL_length L x l.pub) hn,Nat.le_trans (Tt.renP_length L P x) hp,Tt.renP_loose hr x,fun h=>Tt.renew_right hr h l.pub⟩)
 have NC:=hid (fun(x:Int)=>show(Tt.outL L x).length≤1000∧(Tt.outP L P x).length≤1000∧(∀ p∈Tt.outP L P x,p.loose.length≤66)∧(Tt.noneErr L x = 0→Tt.right (Tt.outL L x) (Tt.outP L P x) = true) from⟨Nat.le_trans (Tt.outL_length L x) hn,Nat.le_trans (Tt.outP_length L P x) hp,Tt.outP_loose hr x,fun h=>Tt.remove_right hr h⟩)
 have ND:=hid (fun(x:Int) (ks:List (List UInt8))=>show(Tt.pathL L P x l.pub ks).length≤1000∧(Tt.pathP L P x ks).length≤1000∧(∀ p∈Tt.pathP L P x ks,p.loose.length≤66)∧(Tt.pathErr L x ks.length = 0→Tt.right (Tt.pathL L P x l.pub ks) (Tt.pathP L P x ks) = true) from⟨Nat.le_trans (Tt.pathL_length L P x l.pub ks) hn,Nat.le_trans (Tt.pathP_length L P x ks) hp,Tt.pathP_loose (L:=L) (P:=P) (b:=66) (Tt.right_loose668 hr) x ks,fun h=>Tt.path_right hr l.pub ks h⟩)
 obtain⟨lad,lc,rfl⟩:=hM.lvs.shape;obtain⟨pad,pc,rfl⟩:=hM.pts.shape;obtain⟨ln,hln⟩:∃ ln,ln = L.length:=⟨_,rfl⟩;obtain⟨pn,hpn⟩:∃ pn,pn = P.length:=⟨_,rfl⟩;have HPC:=hid (fun(u:World)=>actplace_calls lad pad ln lc pn pc a (by omega) u)
 rw [← hln,← hpn] at HCP;rw [← hln,← hpn] at HA;rw [← hln,← hpn] at XA;rw [← hln,← hpn] at HB;rw [← hln,← hpn] at XB;rw [← hln,← hpn] at HC;rw [← hln,← hpn] at XC;rw [← hln,← hpn] at HD;rw [← hln,← hpn] at XD;rw [← hln,← hpn] at hM;rw [← hln,← hpn];have HLN:=hid hln;have HPN:=hid hpn;obtain⟨d1,hd1⟩:∃ d,d = (bcells (a.key :: 1 :: List.replicate 30 0)).toArray:=⟨_,rfl⟩;obtain⟨d2,hd2⟩:∃ d,d = (bcells (a.key :: 2 :: List.replicate 30 0)).toArray:=⟨_,rfl⟩;obtain⟨d3,hd3⟩:∃ d,d = (bcells (k3 :: List.replicate 31 0)).toArray:=⟨_,rfl⟩;have HB1:=hid (fun u=>build_keyN a.key 1 u)
 have HB2:=hid (fun u=>build_keyN a.key 2 u)
 have HB3:=hid (fun u=>build_key0 k3 u)
 have HB4:=hid (fun u=>build_actLeaf a k3 u)
 rw [show Tt.keyN k3 0 = k3 :: List.replicate 31 0 from rfl] at HB3;rw [← hd1] at HB1 HB4;rw [← hd2] at HB2 HB4;rw [← hd3] at HB3 HB4;rw [← hl] at HB4;obtain⟨DL,hDL⟩:∃ D,D = l.cells.toArray:=⟨_,rfl⟩;obtain⟨DP,hDP⟩:∃ D,D = (bcells l.pub).toArray:=⟨_,rfl⟩;have HLE:=hid (fun(u:World) (h:u.heap[0]? = u.heap[0]?)=>h)
 have HDL:=hid hDL;have HDP:=hid hDP;have HLI:=hid (show(Tryz.prog.info? 37).map (·.size) = some DL.size by rw [hDL]; exact leafInfo (Lf.size hlo))
 have HLZ:=hid (show(Lf.zero.cells.toArray).size = DL.size by rw [hDL,Lf.size hlo]; rfl)
 have HLA:=hid (show DL.all (·.oneCell') = true by rw [hDL]; exact l.all)
 have HPI:=hid (show(Tryz.prog.info? 35).map (·.size) = some (bcells l.pub).length by exact hashInfoT (by rw [bcells_length,hlo.1]))
 rw [← hDL] at HB4;rw [← hDL] at HA;rw [← hDL] at XA;rw [← hDP] at HB;rw [← hDP] at XB;rw [← hDP] at HD;rw [← hDP] at XD;obtain⟨kd,hkdn⟩:∃ x:Int,x = (a.kind.toNat:Int):=⟨_,rfl⟩;obtain⟨kz,hkz⟩:∃ x:Int,x = (a.key.toNat:Int):=⟨_,rfl⟩;obtain⟨nm,hnm⟩:∃ x,x = a.name:=⟨_,rfl⟩;obtain⟨DX,hDX⟩:∃ D,D = a.cells.toArray:=⟨_,rfl⟩;have hx0:DX[0]? = some (.int .u8 kd):=by rw [hDX,hkdn]; rfl
 have hx1:DX[1]? = some (.int .i64 nm):=by rw [hDX,hnm]; rfl
 have hx3:DX[3]? = some (.int .u8 kz):=by rw [hDX,hkz]; rfl
 have HXI:=hid (show(Tryz.prog.info? 31).map (·.size) = some DX.size by rw [hDX]; exact actInfo8)
 have HX0:=hid hx0;have HX1:=hid hx1;have HX3:=hid hx3;rw [← hkz] at HB1;rw [← hkz] at HB2;rw [← hkz] at hk3;rw [← hkz] at hk3b;rw [← hkdn] at hkd;rw [← hkdn] at hkdb;rw [← hnm] at HB4;rw [← hDX] at HPC;rw [← hDX];obtain⟨k3i,hk3i⟩:∃ x:Int,x = (k3.toNat:Int):=⟨_,rfl⟩;obtain⟨kdi,hkdi⟩:∃ x:Int,x = (kd4.toNat:Int):=⟨_,rfl⟩;rw [← hk3i] at HB3 hk3 hk3b;rw [← hkdi] at hkd hkdb;have HM3:=hid hk3;have HM3b:=hid (show kz.tmod 3 = k3i from hk3b);have HM4:=hid hkd;have HM4b:=hid (show kd.tmod 4 = kdi from hkdb);have HDI:=hid (show kdi = 0∨kdi = 1∨kdi = 2∨kdi = 3 by omega)
 have HLEN:=hid (fun(x:Int)=>(⟨_,rfl⟩:∃ m,m = (Bo.Direct (ln:Int) x).length))
 have HKC:=hid (fun(x:Int) (m:Nat) (hm:(Bo.Direct (ln:Int) x).length = m) (u:World)=>keys_calls8 lad pad ln lc pn pc m a.key x hm u)
 rw [← hkz] at HKC;clear h64 hpe hn hp hpl hlo hl ht hr hln hpn hd1 hd2 hd3 hDL hDP hkdn hkz hnm hDX hx0 hx1 hx3 hk3 hk3b hkd hkdb hkd4 hk3i hkdi HLE;have k1:=kA w (.cells #[.slice lad ln lc,.slice pad pn pc] 27)
 have t1:=heap_new w (.cells #[.slice lad ln lc,.slice pad pn pc] 27)
 have s1:(w.alloc (.cells #[.slice lad ln lc,.slice pad pn pc] 27)).heap.size = w.heap.size + 1:=by simp
 have m1:=hM.alloc (.cells #[.slice lad ln lc,.slice pad pn pc] 27)
 go_enter Tryz.func8,Tryz.ntmps8
 go_upto_region 1 with fail
 generalize w.alloc (.cells #[.slice lad ln lc,.slice pad pn pc] 27) = wa at k1 t1 s1 m1 ⊢
 have k2:=kA wa (.cells DX 31)
 have e2:=heap_new wa (.cells DX 31)
 have s2:(wa.alloc (.cells DX 31)).heap.size = wa.heap.size + 1:=by simp
 have t2:=row_kept t1 k2;have m2:=m1.alloc (.cells DX 31)
 generalize wa.alloc (.cells DX 31) = wb at k2 e2 s2 t2 m2 ⊢
 have k3:=kA wb (.cells #[.slice none 0 0,.slice none 0 0] 27)
 have r3:=heap_new wb (.cells #[.slice none 0 0,.slice none 0 0] 27)
 have t3:=row_kept t2 k3;have e3:=row_kept e2 k3;have m3:=m2.box (.cells #[.slice none 0 0,.slice none 0 0] 27)
 generalize wb.alloc (.cells #[.slice none 0 0,.slice none 0 0] 27) = w1 at k3 r3 t3 e3 m3 ⊢
 have K1:=hid ((k1.onto k2).onto k3);rw [s2,s1] at r3 m3;rw [s1] at e3
 (try rw [s2])
 (try rw [s1])
 obtain⟨tb,htb⟩:∃ tb,tb = w.heap.size:=⟨_,rfl⟩;obtain⟨xb,hxb⟩:∃ xb,xb = w.heap.size + 1:=⟨_,rfl⟩;obtain⟨rb,hrb⟩:∃ rb,rb = w.heap.size + 1 + 1:=⟨_,rfl⟩;rw [← hrb] at r3 m3
 (try rw [← hrb])
 rw [← hxb] at e3
 (try rw [← hxb])
 rw [← htb] at t3
 (try rw [← htb])
 have HO1:=hid (show w.heap.size≤tb∧tb < xb∧xb < rb from by omega)
 have T1:=hid t3;have X1:=hid e3;have R1:=hid r3;have M1:=hid m3;clear hM k1 t1 s1 m1 k2 e2 s2 t2 m2 k3 r3 t3 e3 m3 htb hxb hrb;refine wp_region_lit ?_;refine @wpList_load_known _ _ _ _ _ _ _ ?_ 27 (.tmp 2) rfl (tb) (0) rfl (.agg #[.slice lad ln lc,.slice pad pn pc]) (run_loadVar_row w1 tb 27 27 _ (0,0) _ T1.out Tryz.underlying27 rfl treeInfo) ?_;kernel_rfl
 simp only [Act.put,sA,sB,sC];refine @wpList_load_known _ _ _ _ _ _ _ ?_ 31 (.tmp 3) rfl (xb) (0) rfl (.agg DX) (run_loadVar_row w1 xb 31 31 _ (0,0) _ X1.out Tryz.underlying31 rfl HXI.out) ?_;kernel_rfl
 simp only [Act.put,sA,sB,sC];refine @wQ _ _ _ _ _ _ _ ?_ ?_;kernel_rfl;intro K hK;go_simp;go_at_call 20
 refine(HPC.out _).mono ?_;rintro e w2 ⟨p,_,rfl,k2⟩;have K2:=hid (K1.out.onto k2);have T2:=hid (row_kept T1.out k2);have X2:=hid (row_kept X1.out k2);have R2:=hid (row_kept R1.out k2);have M2:=hid (M1.out.kept k2);clear k2 T1 X1 R1 M1 K1 HPC;obtain⟨pi,hpi⟩:∃ x:Int,x = (p:Int):=⟨_,rfl⟩;rw [← hpi];clear hpi;refine hK _ _ ?_;clear hK K;refine @wQ _ _ _ _ _ _ _ ?_ ?_;kernel_rfl;intro K hK;go_simp;refine hK _ _ ?_;clear hK K
 go_upto_region 2 with fail
 refine wp_region_lit ?_;refine @wQ _ _ _ _ _ _ _ ?_ ?_;kernel_rfl;intro K hK;go_simp;refine hK _ _ ?_;clear hK K;refine @wpList_load_known _ _ _ _ _ _ _ ?_ 3 (.tmp 19) rfl (xb) (1) rfl (.int .i64 nm) (load_int ((cell_of_row _ xb 1 _ _ _ X2.out).trans HX1.out)) ?_;kernel_rfl
 simp only [Act.put,sA,sB,sC];refine @wQ _ _ _ _ _ _ _ ?_ ?_;kernel_rfl;intro K hK;go_simp;refine hK _ _ ?_;clear hK K;refine @wpList_load_known _ _ _ _ _ _ _ ?_ 5 (.tmp 21) rfl (xb) (3) rfl (.int .u8 kz) (load_u8_8 ((cell_of_row _ xb 3 _ _ _ X2.out).trans HX3.out)) ?_;kernel_rfl
 simp only [Act.put,sA,sB,sC];refine @wpL_buildN _ _ _ _ _ _ _ ?_ 35 _ rfl #[(0,.int .u8 kz),(1,.int .u8 1)] (by simp only [List.map_toArray,List.map_cons,List.map_nil]; rfl) _ (HB1.out _) ?_;kernel_rfl
 simp only [Act.put,sA,sB,sC];refine @wQ _ _ _ _ _ _ _ ?_ ?_;kernel_rfl;intro K hK;go_simp;refine hK _ _ ?_;clear hK K;refine @wpList_load_known _ _ _ _ _ _ _ ?_ 5 (.tmp 24) rfl (xb) (3) rfl (.int .u8 kz) (load_u8_8 ((cell_of_row _ xb 3 _ _ _ X2.out).trans HX3.out)) ?_;kernel_rfl
 simp only [Act.put,sA,sB,sC];refine @wpL_buildN _ _ _ _ _ _ _ ?_ 35 _ rfl #[(0,.int .u8 kz),(1,.int .u8 2)] (by simp only [List.map_toArray,List.map_cons,List.map_nil]; rfl) _ (HB2.out _) ?_;kernel_rfl
 simp only [Act.put,sA,sB,sC];refine @wQ _ _ _ _ _ _ _ ?_ ?_;kernel_rfl;intro K hK;go_simp;refine hK _ _ ?_;clear hK K;refine @wpList_load_known _ _ _ _ _ _ _ ?_ 5 (.tmp 27) rfl (xb) (3) rfl (.int .u8 kz) (load_u8_8 ((cell_of_row _ xb 3 _ _ _ X2.out).trans HX3.out)) ?_;kernel_rfl
 simp only [Act.put,sA,sB,sC];refine @wQ _ _ _ _ _ _ _ ?_ ?_;kernel_rfl;intro K hK;go_simp
 (try rw [HM3.out])
 (try rw [HM3b.out])
 refine hK _ _ ?_;clear hK K;refine @wpL_buildN _ _ _ _ _ _ _ ?_ 35 _ rfl #[(0,.int .u8 k3i)] (by simp only [List.map_toArray,List.map_cons,List.map_nil]; rfl) _ (HB3.out _) ?_;kernel_rfl
 simp only [Act.put,sA,sB,sC];refine @wpL_buildN _ _ _ _ _ _ _ ?_ 37 _ rfl #[(0,.int .i64 nm),(1,.agg d1),(2,.agg d2),(3,.agg d3)] (by simp only [List.map_toArray,List.map_cons,List.map_nil]; rfl) _ (HB4.out _) ?_;kernel_rfl
 simp only [Act.put,sA,sB,sC];refine @wpL_alloc _ _ _ _ _ _ _ _ ?_ 37 rfl _ (alloc_leaf _) ?_;kernel_rfl
 simp only [Act.put,sA,sB,sC];refine wpList_store_row rfl 37 _ _ rfl (w2.heap.size) DL rfl rfl 37 Lf.zero.cells.toArray (heap_new _ _) (HLI.out) (HLZ.out) (HLA.out) ?_
 simp only [Act.put];rw [World.setRow_alloc_new];have k3:=kA w2 (.cells DL 37)
 have f3:=heap_new w2 (.cells DL 37)
 have s3:(w2.alloc (.cells DL 37)).heap.size = w2.heap.size + 1:=by simp
 have K3:=hid (K2.out.onto k3);have T3:=hid (row_kept T2.out k3);have X3:=hid (row_kept X2.out k3);have R3:=hid (row_kept R2.out k3);have M3:=hid (M2.out.kept k3);obtain⟨fb,hfb⟩:∃ fb,fb = w2.heap.size:=⟨_,rfl⟩;have HO2:=hid (show rb < fb by rw [hfb]; exact lt_of_block R2.out)
 generalize w2.alloc (.cells DL 37) = w3 at k3 f3 s3 K3 T3 X3 R3 M3 ⊢
 rw [← hfb] at f3 s3
 (try rw [← hfb])
 have F3:=hid f3;have S3:=hid s3;clear k3 f3 s3 hfb K2 T2 X2 R2 M2 HB1 HB2 HB3 HB4
 go_upto_region 3 with fail
 refine wp_region_lit ?_;refine @wpList_load_known _ _ _ _ _ _ _ ?_ 27 (.tmp 2) rfl (tb) (0) rfl (.agg #[.slice lad ln lc,.slice pad pn pc]) (run_loadVar_row w3 tb 27 27 _ (0,0) _ T3.out Tryz.underlying27 rfl treeInfo) ?_;kernel_rfl
 simp only [Act.put,sA,sB,sC];refine @wQ _ _ _ _ _ _ _ ?_ ?_;kernel_rfl;intro K hK;go_simp;go_at_call 25
 refine(HCP.out _ _ M3.out).mono ?_;rintro e w4 ⟨lv4,pv4,rfl,k4,SL4,m4⟩;obtain⟨lad4,lc4,rfl⟩:=m4.lvs.shape;obtain⟨pad4,pc4,rfl⟩:=m4.pts.shape;rw [← HLN.out,← HPN.out] at m4 ⊢;have K4:=hid (K3.out.onto k4);have T4:=hid (row_kept T3.out k4);have X4:=hid (row_kept X3.out k4);have R4:=hid (row_kept R3.out k4);have F4:=hid (row_kept F3.out k4);have M4:=hid (M3.out.kept k4);have C4:=hid m4;have HO3:=hid (show fb < w4.heap.size from lt_of_block F4.out);clear k4 m4 K3 T3 X3 R3 F3 M3 S3 HCP;refine hK _ _ ?_;clear hK K;refine @wpL_alloc _ _ _ _ _ _ _ _ ?_ 27 rfl _ (alloc_tree _) ?_;kernel_rfl
 simp only [Act.put,sA,sB,sC];refine wpList_store_row rfl 27 _ _ rfl (w4.heap.size) #[.slice lad4 ln lc4,.slice pad4 pn pc4] rfl rfl 27 #[.slice none 0 0,.slice none 0 0] (heap_new _ _) (treeInfo) (rfl) (tree_all _ _ _ _ _ _) ?_
 simp only [Act.put];rw [World.setRow_alloc_new];have k5:=kA w4 (.cells #[.slice lad4 ln lc4,.slice pad4 pn pc4] 27)
 have y5:=heap_new w4 (.cells #[.slice lad4 ln lc4,.slice pad4 pn pc4] 27)
 have s5:(w4.alloc (.cells #[.slice lad4 ln lc4,.slice pad4 pn pc4] 27)).heap.size = w4.heap.size + 1:=by simp
 have K5:=hid (K4.out.onto k5);have T5:=hid (row_kept T4.out k5);have X5:=hid (row_kept X4.out k5);have R5:=hid (row_kept R4.out k5);have F5:=hid (row_kept F4.out k5);have M5:=hid (M4.out.kept k5);have C5:=hid (C4.out.kept k5);generalize w4.alloc (.cells #[.slice lad4 ln lc4,.slice pad4 pn pc4] 27) = w5 at k5 y5 s5 K5 T5 X5 R5 F5 M5 C5 ⊢
 obtain⟨yb,hyb⟩:∃ yb,yb = w4.heap.size:=⟨_,rfl⟩;rw [← hyb] at y5 s5
 (try rw [← hyb])
 have HO4:=hid (show fb < yb by rw [hyb]; exact HO3.out)
 have Y5:=hid y5;have S5:=hid s5;clear k5 y5 s5 hyb K4 T4 X4 R4 F4 M4 C4 HO3
 go_upto_region 4 with fail
 refine wp_region_lit ?_;refine @wpL_alloc _ _ _ _ _ _ _ _ ?_ 27 rfl _ (alloc_tree _) ?_;kernel_rfl
 simp only [Act.put,sA,sB,sC];have k6:=kA w5 (.cells #[.slice none 0 0,.slice none 0 0] 27)
 have a6:=heap_new w5 (.cells #[.slice none 0 0,.slice none 0 0] 27)
 have s6:(w5.alloc (.cells #[.slice none 0 0,.slice none 0 0] 27)).heap.size = w5.heap.size + 1:=by simp
 have m6:=M5.out.box (.cells #[.slice none 0 0,.slice none 0 0] 27)
 have c6:=C5.out.box (.cells #[.slice none 0 0,.slice none 0 0] 27)
 have K6:=hid (K5.out.onto k6);have T6:=hid (row_kept T5.out k6);have X6:=hid (row_kept X5.out k6);have R6:=hid (row_kept R5.out k6);have F6:=hid (row_kept F5.out k6);have Y6:=hid (row_kept Y5.out k6);generalize w5.alloc (.cells #[.slice none 0 0,.slice none 0 0] 27) = w6 at k6 a6 s6 m6 c6 K6 T6 X6 R6 F6 Y6 ⊢
 obtain⟨ab,hab⟩:∃ ab,ab = w5.heap.size:=⟨_,rfl⟩;rw [← hab] at a6 s6 m6 c6
 (try rw [← hab])
 have HO5:=hid (show yb < ab by rw [hab]; exact lt_of_block Y5.out)
 have A6:=hid a6;have M6:=hid m6;have C6:=hid c6;clear k6 a6 s6 m6 c6 hab K5 T5 X5 R5 F5 Y5 M5 C5 S5;refine @wpL_alloc _ _ _ _ _ _ _ _ ?_ 27 rfl _ (alloc_tree _) ?_;kernel_rfl
 simp only [Act.put,sA,sB,sC];have k7:=kA w6 (.cells #[.slice none 0 0,.slice none 0 0] 27)
 have c7:=heap_new w6 (.cells #[.slice none 0 0,.slice none 0 0] 27)
 have m7:=M6.out.box (.cells #[.slice none 0 0,.slice none 0 0] 27)
 have d7:=C6.out.box (.cells #[.slice none 0 0,.slice none 0 0] 27)
 have sm7:∀ cb,cb = w6.heap.size→Sm8 w (w6.alloc (.cells #[.slice none 0 0,.slice none 0 0] 27)) tb xb rb fb yb ab cb #[.slice lad ln lc,.slice pad pn pc] DX #[.slice none 0 0,.slice none 0 0] DL #[.slice lad4 ln lc4,.slice pad4 pn pc4] #[.slice none 0 0,.slice none 0 0] #[.slice none 0 0,.slice none 0 0]:=fun cb hcb=>by
  obtain⟨q1,q2,q3⟩:=HO1.out;have q7:=lt_of_block A6.out;exact⟨K6.out.onto k7,row_kept T6.out k7,row_kept X6.out k7,row_kept R6.out k7,row_kept F6.out k7,row_kept Y6.out k7,row_kept A6.out k7,by rw [hcb]; exact c7,q1,q2,q3,HO2.out,HO4.out,HO5.out,by rw [hcb]; exact q7⟩
 obtain⟨cb,hcb⟩:∃ cb,cb = w6.heap.size:=⟨_,rfl⟩;have S7:=hid (sm7 cb hcb);rw [← hcb] at m7 d7;have MT:=hid (m7.mono (B':=(fun k=>k = rb∨k = ab∨k = cb∨B0 k)) (fun k h=>by rcases h with h | h | h | h; exact .inl (.inl (.inr h)); exact .inl (.inr h); exact .inr h; exact .inl (.inl (.inl h))))
 have MY:=hid (d7.mono (B':=(fun k=>k = ab∨k = cb)) (fun k h=>by rcases h with h | h; exact .inl (.inr h); exact .inr h))
 generalize w6.alloc (.cells #[.slice none 0 0,.slice none 0 0] 27) = w7 at S7 MT MY ⊢
 (try rw [← hcb])
 clear k7 c7 m7 d7 sm7 hcb K6 T6 X6 R6 F6 Y6 A6 M6 C6 HO1 HO2 HO4 HO5
 go_upto_region 7 with fail
 refine wp_region_lit ?_;refine @wQ _ _ _ _ _ _ _ ?_ ?_;kernel_rfl;intro K hK;go_simp;refine hK _ _ ?_;clear hK K;refine @wpList_load_known _ _ _ _ _ _ _ ?_ 5 (.tmp 34) rfl (xb) (0) rfl (.int .u8 kd) (load_u8_8 ((cell_of_row _ xb 0 _ _ _ S7.out.x).trans HX0.out)) ?_;kernel_rfl
 simp only [Act.put,sA,sB,sC];refine @wQ _ _ _ _ _ _ _ ?_ ?_;kernel_rfl;intro K hK;go_simp
 (try rw [HM4.out])
 (try rw [HM4b.out])
 refine hK _ _ ?_;clear hK K;have HLB:=hid (fun(u:World) (VA VC:Array Value) (s:Sm8 w u tb xb rb fb yb ab cb #[.slice lad ln lc,.slice pad pn pc] DX #[.slice none 0 0,.slice none 0 0] DL #[.slice lad4 ln lc4,.slice pad4 pn pc4] VA VC)=>run_loadVar_row u tb 27 27 _ (0,0) _ s.t Tryz.underlying27 rfl treeInfo)
 have HLF:=hid (fun(u:World) (VA VC:Array Value) (s:Sm8 w u tb xb rb fb yb ab cb #[.slice lad ln lc,.slice pad pn pc] DX #[.slice none 0 0,.slice none 0 0] DL #[.slice lad4 ln lc4,.slice pad4 pn pc4] VA VC)=>run_loadVar_row u fb 37 37 _ (0,0) _ s.f Tryz.underlying37 rfl HLI.out)
 have HLQ:=hid (fun(u:World) (VA VC:Array Value) (s:Sm8 w u tb xb rb fb yb ab cb #[.slice lad ln lc,.slice pad pn pc] DX #[.slice none 0 0,.slice none 0 0] DL #[.slice lad4 ln lc4,.slice pad4 pn pc4] VA VC)=>run_loadVar_mid u fb 1 35 (bcells l.pub) _ (leafPub8 (by rw [← HDL.out]; exact s.f)) Tryz.underlying35 rfl HPI.out)
 have HLK:=hid (fun(u:World) (VA VC:Array Value) (s:Sm8 w u tb xb rb fb yb ab cb #[.slice lad ln lc,.slice pad pn pc] DX #[.slice none 0 0,.slice none 0 0] DL #[.slice lad4 ln lc4,.slice pad4 pn pc4] VA VC)=>load_u8_8 ((cell_of_row u xb 3 _ _ _ s.x).trans HX3.out))
 rw [← HDP.out] at HLQ
 rcases HDI.out with h0 | h0 | h0 | h0
 ·subst h0
  obtain⟨L9,hL9⟩:∃ x,x = Tt.putL L l:=⟨_,rfl⟩;obtain⟨P9,hP9⟩:∃ x,x = Tt.putP L P l.name:=⟨_,rfl⟩;obtain⟨er,her⟩:∃ x,x = Tt.addErr L l.name:=⟨_,rfl⟩;obtain⟨pl,hpl⟩:∃ x,x = Tt.addAt L l.name:=⟨_,rfl⟩;have H1:=hid (HA.out);have H2:=hid (XA.out);have NX:=hid NA.out;rw [← hL9,← hP9,← her,← hpl] at H1;rw [← hL9,← hP9,← her,← hpl] at H2;rw [← hL9,← hP9,← her] at NX;clear hL9 hP9 her hpl HA XA HB XB HC XC HD XD NA NB NC ND;have S7X:=S7.out
  go_upto_region 9 with fail
  refine wp_region_lit ?_;refine @wpList_load_known _ _ _ _ _ _ _ ?_ 27 (.tmp 2) rfl (tb) (0) rfl (.agg #[.slice lad ln lc,.slice pad pn pc]) (HLB.out _ _ _ S7.out) ?_;kernel_rfl
  simp only [Act.put,sA,sB,sC];refine @wpList_load_known _ _ _ _ _ _ _ ?_ 37 (.tmp 7) rfl (fb) (0) rfl (.agg DL) (HLF.out _ _ _ S7.out) ?_;kernel_rfl
  simp only [Act.put,sA,sB,sC];refine @wQ _ _ _ _ _ _ _ ?_ ?_;kernel_rfl;intro K hK;go_simp;go_at_call 11
  refine(H1.out _ w7 MT.out).mono ?_;rintro e w8 ⟨lv8,pv8,rfl,k8,SL8,m8⟩;obtain⟨lad8,lc8,rfl⟩:=m8.lvs.shape;obtain⟨pad8,pc8,rfl⟩:=m8.pts.shape;obtain⟨n8,hn8⟩:∃ n8,n8 = L9.length:=⟨_,rfl⟩;obtain⟨q8,hq8⟩:∃ q8,q8 = P9.length:=⟨_,rfl⟩;rw [← hn8,← hq8] at m8 ⊢;clear hn8 hq8;have S8:=hid (S7.out.kept k8);have MT8:=hid (MT.out.kept k8);have MY8:=hid (MY.out.kept k8);have MA8:=hid m8;have HAB:=hid (show ab < w7.heap.size∧cb < w7.heap.size∧rb < w7.heap.size∧∀ k,B0 k→k < w7.heap.size from⟨lt_of_block S7X.a,lt_of_block S7X.c,lt_of_block S7X.r,fun k h=>Nat.lt_of_lt_of_le (HB0.out k h) S7X.k.size⟩)
  clear k8 m8;refine hK _ _ ?_;clear hK K;iterate 4 (refine @wQ _ _ _ _ _ _ _ ?_ ?_;kernel_rfl;intro K hK;go_simp;refine hK _ _ ?_;clear hK K)
  refine wpList_store_row rfl 27 _ _ rfl (ab) #[.slice lad8 n8 lc8,.slice pad8 q8 pc8] rfl rfl 27 #[.slice none 0 0,.slice none 0 0] S8.out.a treeInfo rfl (tree_all _ _ _ _ _ _) ?_
  simp only [Act.put];have g9:=grown_setRow w8 ab #[.slice lad8 n8 lc8,.slice pad8 q8 pc8];have S9:=hid (S8.out.setA #[.slice lad8 n8 lc8,.slice pad8 q8 pc8]);have MT9:=hid (MT8.out.aside (b:=ab) (.inr (.inl rfl)) g9);have MY9:=hid (MY8.out.aside (b:=ab) (.inl rfl) g9);have MA9:=hid (MA8.out.aside (b:=ab) HAB.out.1 g9);generalize w8.setRow ab #[.slice lad8 n8 lc8,.slice pad8 q8 pc8] = w9 at g9 S9 MT9 MY9 MA9 ⊢;clear g9 S8 MT8 MY8 MA8;iterate 2 (refine @wQ _ _ _ _ _ _ _ ?_ ?_;kernel_rfl;intro K hK;go_simp;refine hK _ _ ?_;clear hK K)
  clear S7X
  go_upto_region 10 with fail
  refine wp_region_lit ?_;refine @wpList_load_known _ _ _ _ _ _ _ ?_ 27 (.tmp 2) rfl (tb) (0) rfl (.agg #[.slice lad ln lc,.slice pad pn pc]) (HLB.out _ _ _ S9.out) ?_;kernel_rfl
  simp only [Act.put,sA,sB,sC];refine @wpList_load_known _ _ _ _ _ _ _ ?_ 37 (.tmp 7) rfl (fb) (0) rfl (.agg DL) (HLF.out _ _ _ S9.out) ?_;kernel_rfl
  simp only [Act.put,sA,sB,sC];refine @wQ _ _ _ _ _ _ _ ?_ ?_;kernel_rfl;intro K hK;go_simp;go_at_call 16
  refine(H2.out _ w9 MT9.out).mono ?_;rintro e w10 ⟨lv10,pv10,rfl,k10,SL10,m10⟩;obtain⟨lad10,lc10,rfl⟩:=m10.lvs.shape;obtain⟨pad10,pc10,rfl⟩:=m10.pts.shape;obtain⟨n10,hn10⟩:∃ n10,n10 = L9.length:=⟨_,rfl⟩;obtain⟨q10,hq10⟩:∃ q10,q10 = P9.length:=⟨_,rfl⟩;rw [← hn10,← hq10] at m10 ⊢;clear hn10 hq10;have S10:=hid (S9.out.kept k10);have MT10:=hid (MT9.out.kept k10);have MY10:=hid (MY9.out.kept k10);have MA10:=hid (MA9.out.kept k10);have MC10:=hid m10;have HCB:=hid (show cb < w9.heap.size from lt_of_block S9.out.c);clear k10 m10;refine hK _ _ ?_;clear hK K;iterate 4 (refine @wQ _ _ _ _ _ _ _ ?_ ?_;kernel_rfl;intro K hK;go_simp;refine hK _ _ ?_;clear hK K)
  refine wpList_store_row rfl 27 _ _ rfl (cb) #[.slice lad10 n10 lc10,.slice pad10 q10 pc10] rfl rfl 27 #[.slice none 0 0,.slice none 0 0] S10.out.c treeInfo rfl (tree_all _ _ _ _ _ _) ?_
  simp only [Act.put];have g11:=grown_setRow w10 cb #[.slice lad10 n10 lc10,.slice pad10 q10 pc10];have S11:=hid (S10.out.setC #[.slice lad10 n10 lc10,.slice pad10 q10 pc10]);have MT11:=hid (MT10.out.aside (b:=cb) (.inr (.inr (.inl rfl))) g11);have MY11:=hid (MY10.out.aside (b:=cb) (.inr rfl) g11);have MA11:=hid (MA10.out.aside (b:=cb) HAB.out.2.1 g11);have MC11:=hid (MC10.out.aside (b:=cb) HCB.out g11);generalize w10.setRow cb #[.slice lad10 n10 lc10,.slice pad10 q10 pc10] = w11 at g11 S11 MT11 MY11 MA11 MC11 ⊢;clear g11 S10 MT10 MY10 MA10 MC10;iterate 2 (refine @wQ _ _ _ _ _ _ _ ?_ ?_;kernel_rfl;intro K hK;go_simp;refine hK _ _ ?_;clear hK K)
  obtain⟨hl9,hp9,hs9,hr9⟩:=NX.out;have HSA:=hid (fun(u:World) (k:Kept w11.heap.size w11.heap.size w11 u)=>treesame_calls _ _ _ _ _ _ L9 P9 SL8 SL10 u (MA11.out.kept k) (MC11.out.kept k) hl9 hp9 hs9)
  have HSB:=hid (fun(u:World) (k:Kept w11.heap.size w11.heap.size w11 u)=>treesame_calls _ _ _ _ _ _ L P SL SL4 u (MT11.out.kept k) (MY11.out.kept k) HN.out HPP.out HPL.out)
  have HR9:=hid hr9;clear hl9 hp9 hs9 hr9
  go_upto_region 20 with fail
  refine wp_region_lit ?_;iterate 9 (refine @wQ _ _ _ _ _ _ _ ?_ ?_;kernel_rfl;intro K hK;go_simp;refine hK _ _ ?_;clear hK K)
  refine @wpList_load_known _ _ _ _ _ _ _ ?_ 27 (.tmp 9) rfl (ab) (0) rfl (.agg #[.slice lad8 n8 lc8,.slice pad8 q8 pc8]) (run_loadVar_row w11 ab 27 27 _ (0,0) _ S11.out.a Tryz.underlying27 rfl treeInfo) ?_;kernel_rfl
  simp only [Act.put,sA,sB,sC];refine @wpList_load_known _ _ _ _ _ _ _ ?_ 27 (.tmp 10) rfl (cb) (0) rfl (.agg #[.slice lad10 n10 lc10,.slice pad10 q10 pc10]) (run_loadVar_row w11 cb 27 27 _ (0,0) _ S11.out.c Tryz.underlying27 rfl treeInfo) ?_;kernel_rfl
  simp only [Act.put,sA,sB,sC];refine @wQ _ _ _ _ _ _ _ ?_ ?_;kernel_rfl;intro K hK;go_simp;go_at_call 24
  refine(HSA.out _ (Kept.refl _ _ _)).mono ?_;rintro e w12 ⟨rfl,k12⟩;have S12:=hid (S11.out.kept k12);have KC:=hid k12;clear k12;refine hK _ _ ?_;clear hK K;iterate 2 (refine @wQ _ _ _ _ _ _ _ ?_ ?_;kernel_rfl;intro K hK;go_simp;refine hK _ _ ?_;clear hK K)
  refine @wpList_load_known _ _ _ _ _ _ _ ?_ 27 (.tmp 2) rfl (tb) (0) rfl (.agg #[.slice lad ln lc,.slice pad pn pc]) (HLB.out _ _ _ S12.out) ?_;kernel_rfl
  simp only [Act.put,sA,sB,sC];refine @wpList_load_known _ _ _ _ _ _ _ ?_ 27 (.tmp 8) rfl (yb) (0) rfl (.agg #[.slice lad4 ln lc4,.slice pad4 pn pc4]) (run_loadVar_row w12 yb 27 27 _ (0,0) _ S12.out.y Tryz.underlying27 rfl treeInfo) ?_;kernel_rfl
  simp only [Act.put,sA,sB,sC];refine @wQ _ _ _ _ _ _ _ ?_ ?_;kernel_rfl;intro K hK;go_simp;go_at_call 24
  refine(HSB.out _ KC.out).mono ?_;rintro e w13 ⟨rfl,k13⟩;have S13:=hid (S12.out.kept k13);have KC13:=hid (KC.out.onto k13);clear k13;refine hK _ _ ?_;clear hK K;iterate 2 (refine @wQ _ _ _ _ _ _ _ ?_ ?_;kernel_rfl;intro K hK;go_simp;refine hK _ _ ?_;clear hK K)
  by_cases hz:er = 0
  ·have HRZ:=hid (HR9.out hz)
   have hne:(er != 0) = false:=by rw [hz]; rfl
   clear hz
   go_upto_region 21 with fail
   refine wp_region_lit ?_;iterate 2 (refine @wQ _ _ _ _ _ _ _ ?_ ?_;kernel_rfl;intro K hK;go_simp;refine hK _ _ ?_;clear hK K)
   go_upto_region 23 with fail
   refine wp_region_lit ?_;refine @wpList_load_known _ _ _ _ _ _ _ ?_ 27 (.tmp 9) rfl (ab) (0) rfl (.agg #[.slice lad8 n8 lc8,.slice pad8 q8 pc8]) (run_loadVar_row w13 ab 27 27 _ (0,0) _ S13.out.a Tryz.underlying27 rfl treeInfo) ?_;kernel_rfl
   simp only [Act.put,sA,sB,sC];refine @wQ _ _ _ _ _ _ _ ?_ ?_;kernel_rfl;intro K hK;go_simp;refine hK _ _ ?_;clear hK K;refine wpList_store_row rfl 27 _ _ rfl (rb) #[.slice lad8 n8 lc8,.slice pad8 q8 pc8] rfl rfl 27 #[.slice none 0 0,.slice none 0 0] S13.out.r treeInfo rfl (tree_all _ _ _ _ _ _) ?_
   simp only [Act.put];refine @wQ _ _ _ _ _ _ _ ?_ ?_;kernel_rfl;intro K hK;go_simp;refine hK _ _ ?_;clear hK K;obtain⟨kz9,rz9⟩:=S13.out.setR #[.slice lad8 n8 lc8,.slice pad8 q8 pc8];have gz:=grown_setRow w13 rb #[.slice lad8 n8 lc8,.slice pad8 q8 pc8];have mz:=(MA11.out.kept KC13.out).aside (b:=rb) HAB.out.2.2.1 gz;have KZ:=hid kz9;have MZ:=hid mz;have RZ:=hid rz9;clear kz9 rz9 mz gz;generalize w13.setRow rb #[.slice lad8 n8 lc8,.slice pad8 q8 pc8] = wz at KZ MZ RZ ⊢;go_wp2;refine bodyPost_ret (results_row2 rfl _ _ rb 27 _ (0,0) _ rfl RZ.out Tryz.underlying27 rfl treeInfo) rfl ?_
   have hm9:=MZ.out.mono (B':=B0) HAB.out.2.2.2;have hr9:=HRZ.out;have hk9:=KZ.out;clear MZ HRZ KZ;exact⟨_,_,rfl,hk9,L9,P9,hr9,_,hm9⟩
  ·have hne:(er != 0) = true:=bne_iff_ne.2 hz
   clear hz
   go_upto_region 21 with fail
   refine wp_region_lit ?_;iterate 2 (refine @wQ _ _ _ _ _ _ _ ?_ ?_;kernel_rfl;intro K hK;go_simp;refine hK _ _ ?_;clear hK K)
   go_upto_region 22 with fail
   refine wp_region_lit ?_;refine @wpList_load_known _ _ _ _ _ _ _ ?_ 27 (.tmp 2) rfl (tb) (0) rfl (.agg #[.slice lad ln lc,.slice pad pn pc]) (HLB.out _ _ _ S13.out) ?_;kernel_rfl
   simp only [Act.put,sA,sB,sC];refine @wQ _ _ _ _ _ _ _ ?_ ?_;kernel_rfl;intro K hK;go_simp;refine hK _ _ ?_;clear hK K;refine wpList_store_row rfl 27 _ _ rfl (rb) #[.slice lad ln lc,.slice pad pn pc] rfl rfl 27 #[.slice none 0 0,.slice none 0 0] S13.out.r treeInfo rfl (tree_all _ _ _ _ _ _) ?_
   simp only [Act.put];refine @wQ _ _ _ _ _ _ _ ?_ ?_;kernel_rfl;intro K hK;go_simp;refine hK _ _ ?_;clear hK K;obtain⟨kz9,rz9⟩:=S13.out.setR #[.slice lad ln lc,.slice pad pn pc];have gz:=grown_setRow w13 rb #[.slice lad ln lc,.slice pad pn pc];have mz:=(MT11.out.kept KC13.out).aside (b:=rb) (.inl rfl) gz;have KZ:=hid kz9;have MZ:=hid mz;have RZ:=hid rz9;clear kz9 rz9 mz gz;generalize w13.setRow rb #[.slice lad ln lc,.slice pad pn pc] = wz at KZ MZ RZ ⊢;go_wp2;refine bodyPost_ret (results_row2 rfl _ _ rb 27 _ (0,0) _ rfl RZ.out Tryz.underlying27 rfl treeInfo) rfl ?_
   have hm9:=MZ.out.mono (B':=B0) (fun _ h=>.inr (.inr (.inr h)))
   have hr9:=HRR.out;have hk9:=KZ.out;clear MZ HRR KZ;exact⟨_,_,rfl,hk9,L,P,hr9,_,hm9⟩
 ·subst h0
  obtain⟨L9,hL9⟩:∃ x,x = Tt.renL L pi l.pub:=⟨_,rfl⟩;obtain⟨P9,hP9⟩:∃ x,x = Tt.renP L P pi:=⟨_,rfl⟩;obtain⟨er,her⟩:∃ x,x = Tt.noneErr L pi:=⟨_,rfl⟩;have H1:=hid (HB.out pi);have H2:=hid (XB.out pi);have NX:=hid (NB.out pi);rw [← hL9,← hP9,← her] at H1;rw [← hL9,← hP9,← her] at H2;rw [← hL9,← hP9,← her] at NX;clear hL9 hP9 her HA XA HB XB HC XC HD XD NA NB NC ND;have S7X:=S7.out
  go_upto_region 12 with fail
  refine wp_region_lit ?_;refine @wpList_load_known _ _ _ _ _ _ _ ?_ 27 (.tmp 2) rfl (tb) (0) rfl (.agg #[.slice lad ln lc,.slice pad pn pc]) (HLB.out _ _ _ S7.out) ?_;kernel_rfl
  simp only [Act.put,sA,sB,sC];iterate 2 (refine @wQ _ _ _ _ _ _ _ ?_ ?_;kernel_rfl;intro K hK;go_simp;refine hK _ _ ?_;clear hK K)
  refine @wpList_load_known _ _ _ _ _ _ _ ?_ 35 (.tmp 58) rfl (fb) (1) rfl (.agg DP) (HLQ.out _ _ _ S7.out) ?_;kernel_rfl
  simp only [Act.put,sA,sB,sC];refine @wQ _ _ _ _ _ _ _ ?_ ?_;kernel_rfl;intro K hK;go_simp;go_at_call 12
  refine(H1.out _ w7 MT.out).mono ?_;rintro e w8 ⟨lv8,pv8,rfl,k8,SL8,m8⟩;obtain⟨lad8,lc8,rfl⟩:=m8.lvs.shape;obtain⟨pad8,pc8,rfl⟩:=m8.pts.shape;obtain⟨n8,hn8⟩:∃ n8,n8 = L9.length:=⟨_,rfl⟩;obtain⟨q8,hq8⟩:∃ q8,q8 = P9.length:=⟨_,rfl⟩;rw [← hn8,← hq8] at m8 ⊢;clear hn8 hq8;have S8:=hid (S7.out.kept k8);have MT8:=hid (MT.out.kept k8);have MY8:=hid (MY.out.kept k8);have MA8:=hid m8;have HAB:=hid (show ab < w7.heap.size∧cb < w7.heap.size∧rb < w7.heap.size∧∀ k,B0 k→k < w7.heap.size from⟨lt_of_block S7X.a,lt_of_block S7X.c,lt_of_block S7X.r,fun k h=>Nat.lt_of_lt_of_le (HB0.out k h) S7X.k.size⟩)
  clear k8 m8;refine hK _ _ ?_;clear hK K;iterate 3 (refine @wQ _ _ _ _ _ _ _ ?_ ?_;kernel_rfl;intro K hK;go_simp;refine hK _ _ ?_;clear hK K)
  refine wpList_store_row rfl 27 _ _ rfl (ab) #[.slice lad8 n8 lc8,.slice pad8 q8 pc8] rfl rfl 27 #[.slice none 0 0,.slice none 0 0] S8.out.a treeInfo rfl (tree_all _ _ _ _ _ _) ?_
  simp only [Act.put];have g9:=grown_setRow w8 ab #[.slice lad8 n8 lc8,.slice pad8 q8 pc8];have S9:=hid (S8.out.setA #[.slice lad8 n8 lc8,.slice pad8 q8 pc8]);have MT9:=hid (MT8.out.aside (b:=ab) (.inr (.inl rfl)) g9);have MY9:=hid (MY8.out.aside (b:=ab) (.inl rfl) g9);have MA9:=hid (MA8.out.aside (b:=ab) HAB.out.1 g9);generalize w8.setRow ab #[.slice lad8 n8 lc8,.slice pad8 q8 pc8] = w9 at g9 S9 MT9 MY9 MA9 ⊢;clear g9 S8 MT8 MY8 MA8;refine @wQ _ _ _ _ _ _ _ ?_ ?_;kernel_rfl;intro K hK;go_simp;refine hK _ _ ?_;clear hK K;clear S7X
  go_upto_region 13 with fail
  refine wp_region_lit ?_;refine @wpList_load_known _ _ _ _ _ _ _ ?_ 27 (.tmp 2) rfl (tb) (0) rfl (.agg #[.slice lad ln lc,.slice pad pn pc]) (HLB.out _ _ _ S9.out) ?_;kernel_rfl
  simp only [Act.put,sA,sB,sC];iterate 2 (refine @wQ _ _ _ _ _ _ _ ?_ ?_;kernel_rfl;intro K hK;go_simp;refine hK _ _ ?_;clear hK K)
  refine @wpList_load_known _ _ _ _ _ _ _ ?_ 35 (.tmp 66) rfl (fb) (1) rfl (.agg DP) (HLQ.out _ _ _ S9.out) ?_;kernel_rfl
  simp only [Act.put,sA,sB,sC];refine @wQ _ _ _ _ _ _ _ ?_ ?_;kernel_rfl;intro K hK;go_simp;go_at_call 17
  refine(H2.out _ w9 MT9.out).mono ?_;rintro e w10 ⟨lv10,pv10,rfl,k10,SL10,m10⟩;obtain⟨lad10,lc10,rfl⟩:=m10.lvs.shape;obtain⟨pad10,pc10,rfl⟩:=m10.pts.shape;obtain⟨n10,hn10⟩:∃ n10,n10 = L9.length:=⟨_,rfl⟩;obtain⟨q10,hq10⟩:∃ q10,q10 = P9.length:=⟨_,rfl⟩;rw [← hn10,← hq10] at m10 ⊢;clear hn10 hq10;have S10:=hid (S9.out.kept k10);have MT10:=hid (MT9.out.kept k10);have MY10:=hid (MY9.out.kept k10);have MA10:=hid (MA9.out.kept k10);have MC10:=hid m10;have HCB:=hid (show cb < w9.heap.size from lt_of_block S9.out.c);clear k10 m10;refine hK _ _ ?_;clear hK K;iterate 3 (refine @wQ _ _ _ _ _ _ _ ?_ ?_;kernel_rfl;intro K hK;go_simp;refine hK _ _ ?_;clear hK K)
  refine wpList_store_row rfl 27 _ _ rfl (cb) #[.slice lad10 n10 lc10,.slice pad10 q10 pc10] rfl rfl 27 #[.slice none 0 0,.slice none 0 0] S10.out.c treeInfo rfl (tree_all _ _ _ _ _ _) ?_
  simp only [Act.put];have g11:=grown_setRow w10 cb #[.slice lad10 n10 lc10,.slice pad10 q10 pc10];have S11:=hid (S10.out.setC #[.slice lad10 n10 lc10,.slice pad10 q10 pc10]);have MT11:=hid (MT10.out.aside (b:=cb) (.inr (.inr (.inl rfl))) g11);have MY11:=hid (MY10.out.aside (b:=cb) (.inr rfl) g11);have MA11:=hid (MA10.out.aside (b:=cb) HAB.out.2.1 g11);have MC11:=hid (MC10.out.aside (b:=cb) HCB.out g11);generalize w10.setRow cb #[.slice lad10 n10 lc10,.slice pad10 q10 pc10] = w11 at g11 S11 MT11 MY11 MA11 MC11 ⊢;clear g11 S10 MT10 MY10 MA10 MC10;refine @wQ _ _ _ _ _ _ _ ?_ ?_;kernel_rfl;intro K hK;go_simp;refine hK _ _ ?_;clear hK K;obtain⟨hl9,hp9,hs9,hr9⟩:=NX.out;have HSA:=hid (fun(u:World) (k:Kept w11.heap.size w11.heap.size w11 u)=>treesame_calls _ _ _ _ _ _ L9 P9 SL8 SL10 u (MA11.out.kept k) (MC11.out.kept k) hl9 hp9 hs9)
  have HSB:=hid (fun(u:World) (k:Kept w11.heap.size w11.heap.size w11 u)=>treesame_calls _ _ _ _ _ _ L P SL SL4 u (MT11.out.kept k) (MY11.out.kept k) HN.out HPP.out HPL.out)
  have HR9:=hid hr9;clear hl9 hp9 hs9 hr9
  go_upto_region 20 with fail
  refine wp_region_lit ?_;iterate 9 (refine @wQ _ _ _ _ _ _ _ ?_ ?_;kernel_rfl;intro K hK;go_simp;refine hK _ _ ?_;clear hK K)
  refine @wpList_load_known _ _ _ _ _ _ _ ?_ 27 (.tmp 9) rfl (ab) (0) rfl (.agg #[.slice lad8 n8 lc8,.slice pad8 q8 pc8]) (run_loadVar_row w11 ab 27 27 _ (0,0) _ S11.out.a Tryz.underlying27 rfl treeInfo) ?_;kernel_rfl
  simp only [Act.put,sA,sB,sC];refine @wpList_load_known _ _ _ _ _ _ _ ?_ 27 (.tmp 10) rfl (cb) (0) rfl (.agg #[.slice lad10 n10 lc10,.slice pad10 q10 pc10]) (run_loadVar_row w11 cb 27 27 _ (0,0) _ S11.out.c Tryz.underlying27 rfl treeInfo) ?_;kernel_rfl
  simp only [Act.put,sA,sB,sC];refine @wQ _ _ _ _ _ _ _ ?_ ?_;kernel_rfl;intro K hK;go_simp;go_at_call 24
  refine(HSA.out _ (Kept.refl _ _ _)).mono ?_;rintro e w12 ⟨rfl,k12⟩;have S12:=hid (S11.out.kept k12);have KC:=hid k12;clear k12;refine hK _ _ ?_;clear hK K;iterate 2 (refine @wQ _ _ _ _ _ _ _ ?_ ?_;kernel_rfl;intro K hK;go_simp;refine hK _ _ ?_;clear hK K)
  refine @wpList_load_known _ _ _ _ _ _ _ ?_ 27 (.tmp 2) rfl (tb) (0) rfl (.agg #[.slice lad ln lc,.slice pad pn pc]) (HLB.out _ _ _ S12.out) ?_;kernel_rfl
  simp only [Act.put,sA,sB,sC];refine @wpList_load_known _ _ _ _ _ _ _ ?_ 27 (.tmp 8) rfl (yb) (0) rfl (.agg #[.slice lad4 ln lc4,.slice pad4 pn pc4]) (run_loadVar_row w12 yb 27 27 _ (0,0) _ S12.out.y Tryz.underlying27 rfl treeInfo) ?_;kernel_rfl
  simp only [Act.put,sA,sB,sC];refine @wQ _ _ _ _ _ _ _ ?_ ?_;kernel_rfl;intro K hK;go_simp;go_at_call 24
  refine(HSB.out _ KC.out).mono ?_;rintro e w13 ⟨rfl,k13⟩;have S13:=hid (S12.out.kept k13);have KC13:=hid (KC.out.onto k13);clear k13;refine hK _ _ ?_;clear hK K;iterate 2 (refine @wQ _ _ _ _ _ _ _ ?_ ?_;kernel_rfl;intro K hK;go_simp;refine hK _ _ ?_;clear hK K)
  by_cases hz:er = 0
  ·have HRZ:=hid (HR9.out hz)
   have hne:(er != 0) = false:=by rw [hz]; rfl
   clear hz
   go_upto_region 21 with fail
   refine wp_region_lit ?_;iterate 2 (refine @wQ _ _ _ _ _ _ _ ?_ ?_;kernel_rfl;intro K hK;go_simp;refine hK _ _ ?_;clear hK K)
   go_upto_region 23 with fail
   refine wp_region_lit ?_;refine @wpList_load_known _ _ _ _ _ _ _ ?_ 27 (.tmp 9) rfl (ab) (0) rfl (.agg #[.slice lad8 n8 lc8,.slice pad8 q8 pc8]) (run_loadVar_row w13 ab 27 27 _ (0,0) _ S13.out.a Tryz.underlying27 rfl treeInfo) ?_;kernel_rfl
   simp only [Act.put,sA,sB,sC];refine @wQ _ _ _ _ _ _ _ ?_ ?_;kernel_rfl;intro K hK;go_simp;refine hK _ _ ?_;clear hK K;refine wpList_store_row rfl 27 _ _ rfl (rb) #[.slice lad8 n8 lc8,.slice pad8 q8 pc8] rfl rfl 27 #[.slice none 0 0,.slice none 0 0] S13.out.r treeInfo rfl (tree_all _ _ _ _ _ _) ?_
   simp only [Act.put];refine @wQ _ _ _ _ _ _ _ ?_ ?_;kernel_rfl;intro K hK;go_simp;refine hK _ _ ?_;clear hK K;obtain⟨kz9,rz9⟩:=S13.out.setR #[.slice lad8 n8 lc8,.slice pad8 q8 pc8];have gz:=grown_setRow w13 rb #[.slice lad8 n8 lc8,.slice pad8 q8 pc8];have mz:=(MA11.out.kept KC13.out).aside (b:=rb) HAB.out.2.2.1 gz;have KZ:=hid kz9;have MZ:=hid mz;have RZ:=hid rz9;clear kz9 rz9 mz gz;generalize w13.setRow rb #[.slice lad8 n8 lc8,.slice pad8 q8 pc8] = wz at KZ MZ RZ ⊢;go_wp2;refine bodyPost_ret (results_row2 rfl _ _ rb 27 _ (0,0) _ rfl RZ.out Tryz.underlying27 rfl treeInfo) rfl ?_
   have hm9:=MZ.out.mono (B':=B0) HAB.out.2.2.2;have hr9:=HRZ.out;have hk9:=KZ.out;clear MZ HRZ KZ;exact⟨_,_,rfl,hk9,L9,P9,hr9,_,hm9⟩
  ·have hne:(er != 0) = true:=bne_iff_ne.2 hz
   clear hz
   go_upto_region 21 with fail
   refine wp_region_lit ?_;iterate 2 (refine @wQ _ _ _ _ _ _ _ ?_ ?_;kernel_rfl;intro K hK;go_simp;refine hK _ _ ?_;clear hK K)
   go_upto_region 22 with fail
   refine wp_region_lit ?_;refine @wpList_load_known _ _ _ _ _ _ _ ?_ 27 (.tmp 2) rfl (tb) (0) rfl (.agg #[.slice lad ln lc,.slice pad pn pc]) (HLB.out _ _ _ S13.out) ?_;kernel_rfl
   simp only [Act.put,sA,sB,sC];refine @wQ _ _ _ _ _ _ _ ?_ ?_;kernel_rfl;intro K hK;go_simp;refine hK _ _ ?_;clear hK K;refine wpList_store_row rfl 27 _ _ rfl (rb) #[.slice lad ln lc,.slice pad pn pc] rfl rfl 27 #[.slice none 0 0,.slice none 0 0] S13.out.r treeInfo rfl (tree_all _ _ _ _ _ _) ?_
   simp only [Act.put];refine @wQ _ _ _ _ _ _ _ ?_ ?_;kernel_rfl;intro K hK;go_simp;refine hK _ _ ?_;clear hK K;obtain⟨kz9,rz9⟩:=S13.out.setR #[.slice lad ln lc,.slice pad pn pc];have gz:=grown_setRow w13 rb #[.slice lad ln lc,.slice pad pn pc];have mz:=(MT11.out.kept KC13.out).aside (b:=rb) (.inl rfl) gz;have KZ:=hid kz9;have MZ:=hid mz;have RZ:=hid rz9;clear kz9 rz9 mz gz;generalize w13.setRow rb #[.slice lad ln lc,.slice pad pn pc] = wz at KZ MZ RZ ⊢;go_wp2;refine bodyPost_ret (results_row2 rfl _ _ rb 27 _ (0,0) _ rfl RZ.out Tryz.underlying27 rfl treeInfo) rfl ?_
   have hm9:=MZ.out.mono (B':=B0) (fun _ h=>.inr (.inr (.inr h)))
   have hr9:=HRR.out;have hk9:=KZ.out;clear MZ HRR KZ;exact⟨_,_,rfl,hk9,L,P,hr9,_,hm9⟩
 ·subst h0
  obtain⟨L9,hL9⟩:∃ x,x = Tt.outL L pi:=⟨_,rfl⟩;obtain⟨P9,hP9⟩:∃ x,x = Tt.outP L P pi:=⟨_,rfl⟩;obtain⟨er,her⟩:∃ x,x = Tt.noneErr L pi:=⟨_,rfl⟩;have H1:=hid (HC.out pi);have H2:=hid (XC.out pi);have NX:=hid (NC.out pi);rw [← hL9,← hP9,← her] at H1;rw [← hL9,← hP9,← her] at H2;rw [← hL9,← hP9,← her] at NX;clear hL9 hP9 her HA XA HB XB HC XC HD XD NA NB NC ND;have S7X:=S7.out
  go_upto_region 15 with fail
  refine wp_region_lit ?_;refine @wpList_load_known _ _ _ _ _ _ _ ?_ 27 (.tmp 2) rfl (tb) (0) rfl (.agg #[.slice lad ln lc,.slice pad pn pc]) (HLB.out _ _ _ S7.out) ?_;kernel_rfl
  simp only [Act.put,sA,sB,sC];refine @wQ _ _ _ _ _ _ _ ?_ ?_;kernel_rfl;intro K hK;go_simp;refine hK _ _ ?_;clear hK K;refine @wQ _ _ _ _ _ _ _ ?_ ?_;kernel_rfl;intro K hK;go_simp;go_at_call 13
  refine(H1.out _ w7 MT.out).mono ?_;rintro e w8 ⟨lv8,pv8,rfl,k8,SL8,m8⟩;obtain⟨lad8,lc8,rfl⟩:=m8.lvs.shape;obtain⟨pad8,pc8,rfl⟩:=m8.pts.shape;obtain⟨n8,hn8⟩:∃ n8,n8 = L9.length:=⟨_,rfl⟩;obtain⟨q8,hq8⟩:∃ q8,q8 = P9.length:=⟨_,rfl⟩;rw [← hn8,← hq8] at m8 ⊢;clear hn8 hq8;have S8:=hid (S7.out.kept k8);have MT8:=hid (MT.out.kept k8);have MY8:=hid (MY.out.kept k8);have MA8:=hid m8;have HAB:=hid (show ab < w7.heap.size∧cb < w7.heap.size∧rb < w7.heap.size∧∀ k,B0 k→k < w7.heap.size from⟨lt_of_block S7X.a,lt_of_block S7X.c,lt_of_block S7X.r,fun k h=>Nat.lt_of_lt_of_le (HB0.out k h) S7X.k.size⟩)
  clear k8 m8;refine hK _ _ ?_;clear hK K;iterate 3 (refine @wQ _ _ _ _ _ _ _ ?_ ?_;kernel_rfl;intro K hK;go_simp;refine hK _ _ ?_;clear hK K)
  refine wpList_store_row rfl 27 _ _ rfl (ab) #[.slice lad8 n8 lc8,.slice pad8 q8 pc8] rfl rfl 27 #[.slice none 0 0,.slice none 0 0] S8.out.a treeInfo rfl (tree_all _ _ _ _ _ _) ?_
  simp only [Act.put];have g9:=grown_setRow w8 ab #[.slice lad8 n8 lc8,.slice pad8 q8 pc8];have S9:=hid (S8.out.setA #[.slice lad8 n8 lc8,.slice pad8 q8 pc8]);have MT9:=hid (MT8.out.aside (b:=ab) (.inr (.inl rfl)) g9);have MY9:=hid (MY8.out.aside (b:=ab) (.inl rfl) g9);have MA9:=hid (MA8.out.aside (b:=ab) HAB.out.1 g9);generalize w8.setRow ab #[.slice lad8 n8 lc8,.slice pad8 q8 pc8] = w9 at g9 S9 MT9 MY9 MA9 ⊢;clear g9 S8 MT8 MY8 MA8;refine @wQ _ _ _ _ _ _ _ ?_ ?_;kernel_rfl;intro K hK;go_simp;refine hK _ _ ?_;clear hK K;clear S7X
  go_upto_region 16 with fail
  refine wp_region_lit ?_;refine @wpList_load_known _ _ _ _ _ _ _ ?_ 27 (.tmp 2) rfl (tb) (0) rfl (.agg #[.slice lad ln lc,.slice pad pn pc]) (HLB.out _ _ _ S9.out) ?_;kernel_rfl
  simp only [Act.put,sA,sB,sC];refine @wQ _ _ _ _ _ _ _ ?_ ?_;kernel_rfl;intro K hK;go_simp;refine hK _ _ ?_;clear hK K;refine @wQ _ _ _ _ _ _ _ ?_ ?_;kernel_rfl;intro K hK;go_simp;go_at_call 18
  refine(H2.out _ w9 MT9.out).mono ?_;rintro e w10 ⟨lv10,pv10,rfl,k10,SL10,m10⟩;obtain⟨lad10,lc10,rfl⟩:=m10.lvs.shape;obtain⟨pad10,pc10,rfl⟩:=m10.pts.shape;obtain⟨n10,hn10⟩:∃ n10,n10 = L9.length:=⟨_,rfl⟩;obtain⟨q10,hq10⟩:∃ q10,q10 = P9.length:=⟨_,rfl⟩;rw [← hn10,← hq10] at m10 ⊢;clear hn10 hq10;have S10:=hid (S9.out.kept k10);have MT10:=hid (MT9.out.kept k10);have MY10:=hid (MY9.out.kept k10);have MA10:=hid (MA9.out.kept k10);have MC10:=hid m10;have HCB:=hid (show cb < w9.heap.size from lt_of_block S9.out.c);clear k10 m10;refine hK _ _ ?_;clear hK K;iterate 3 (refine @wQ _ _ _ _ _ _ _ ?_ ?_;kernel_rfl;intro K hK;go_simp;refine hK _ _ ?_;clear hK K)
  refine wpList_store_row rfl 27 _ _ rfl (cb) #[.slice lad10 n10 lc10,.slice pad10 q10 pc10] rfl rfl 27 #[.slice none 0 0,.slice none 0 0] S10.out.c treeInfo rfl (tree_all _ _ _ _ _ _) ?_
  simp only [Act.put];have g11:=grown_setRow w10 cb #[.slice lad10 n10 lc10,.slice pad10 q10 pc10];have S11:=hid (S10.out.setC #[.slice lad10 n10 lc10,.slice pad10 q10 pc10]);have MT11:=hid (MT10.out.aside (b:=cb) (.inr (.inr (.inl rfl))) g11);have MY11:=hid (MY10.out.aside (b:=cb) (.inr rfl) g11);have MA11:=hid (MA10.out.aside (b:=cb) HAB.out.2.1 g11);have MC11:=hid (MC10.out.aside (b:=cb) HCB.out g11);generalize w10.setRow cb #[.slice lad10 n10 lc10,.slice pad10 q10 pc10] = w11 at g11 S11 MT11 MY11 MA11 MC11 ⊢;clear g11 S10 MT10 MY10 MA10 MC10;refine @wQ _ _ _ _ _ _ _ ?_ ?_;kernel_rfl;intro K hK;go_simp;refine hK _ _ ?_;clear hK K;obtain⟨hl9,hp9,hs9,hr9⟩:=NX.out;have HSA:=hid (fun(u:World) (k:Kept w11.heap.size w11.heap.size w11 u)=>treesame_calls _ _ _ _ _ _ L9 P9 SL8 SL10 u (MA11.out.kept k) (MC11.out.kept k) hl9 hp9 hs9)
  have HSB:=hid (fun(u:World) (k:Kept w11.heap.size w11.heap.size w11 u)=>treesame_calls _ _ _ _ _ _ L P SL SL4 u (MT11.out.kept k) (MY11.out.kept k) HN.out HPP.out HPL.out)
  have HR9:=hid hr9;clear hl9 hp9 hs9 hr9
  go_upto_region 20 with fail
  refine wp_region_lit ?_;iterate 9 (refine @wQ _ _ _ _ _ _ _ ?_ ?_;kernel_rfl;intro K hK;go_simp;refine hK _ _ ?_;clear hK K)
  refine @wpList_load_known _ _ _ _ _ _ _ ?_ 27 (.tmp 9) rfl (ab) (0) rfl (.agg #[.slice lad8 n8 lc8,.slice pad8 q8 pc8]) (run_loadVar_row w11 ab 27 27 _ (0,0) _ S11.out.a Tryz.underlying27 rfl treeInfo) ?_;kernel_rfl
  simp only [Act.put,sA,sB,sC];refine @wpList_load_known _ _ _ _ _ _ _ ?_ 27 (.tmp 10) rfl (cb) (0) rfl (.agg #[.slice lad10 n10 lc10,.slice pad10 q10 pc10]) (run_loadVar_row w11 cb 27 27 _ (0,0) _ S11.out.c Tryz.underlying27 rfl treeInfo) ?_;kernel_rfl
  simp only [Act.put,sA,sB,sC];refine @wQ _ _ _ _ _ _ _ ?_ ?_;kernel_rfl;intro K hK;go_simp;go_at_call 24
  refine(HSA.out _ (Kept.refl _ _ _)).mono ?_;rintro e w12 ⟨rfl,k12⟩;have S12:=hid (S11.out.kept k12);have KC:=hid k12;clear k12;refine hK _ _ ?_;clear hK K;iterate 2 (refine @wQ _ _ _ _ _ _ _ ?_ ?_;kernel_rfl;intro K hK;go_simp;refine hK _ _ ?_;clear hK K)
  refine @wpList_load_known _ _ _ _ _ _ _ ?_ 27 (.tmp 2) rfl (tb) (0) rfl (.agg #[.slice lad ln lc,.slice pad pn pc]) (HLB.out _ _ _ S12.out) ?_;kernel_rfl
  simp only [Act.put,sA,sB,sC];refine @wpList_load_known _ _ _ _ _ _ _ ?_ 27 (.tmp 8) rfl (yb) (0) rfl (.agg #[.slice lad4 ln lc4,.slice pad4 pn pc4]) (run_loadVar_row w12 yb 27 27 _ (0,0) _ S12.out.y Tryz.underlying27 rfl treeInfo) ?_;kernel_rfl
  simp only [Act.put,sA,sB,sC];refine @wQ _ _ _ _ _ _ _ ?_ ?_;kernel_rfl;intro K hK;go_simp;go_at_call 24
  refine(HSB.out _ KC.out).mono ?_;rintro e w13 ⟨rfl,k13⟩;have S13:=hid (S12.out.kept k13);have KC13:=hid (KC.out.onto k13);clear k13;refine hK _ _ ?_;clear hK K;iterate 2 (refine @wQ _ _ _ _ _ _ _ ?_ ?_;kernel_rfl;intro K hK;go_simp;refine hK _ _ ?_;clear hK K)
  by_cases hz:er = 0
  ·have HRZ:=hid (HR9.out hz)
   have hne:(er != 0) = false:=by rw [hz]; rfl
   clear hz
   go_upto_region 21 with fail
   refine wp_region_lit ?_;iterate 2 (refine @wQ _ _ _ _ _ _ _ ?_ ?_;kernel_rfl;intro K hK;go_simp;refine hK _ _ ?_;clear hK K)
   go_upto_region 23 with fail
   refine wp_region_lit ?_;refine @wpList_load_known _ _ _ _ _ _ _ ?_ 27 (.tmp 9) rfl (ab) (0) rfl (.agg #[.slice lad8 n8 lc8,.slice pad8 q8 pc8]) (run_loadVar_row w13 ab 27 27 _ (0,0) _ S13.out.a Tryz.underlying27 rfl treeInfo) ?_;kernel_rfl
   simp only [Act.put,sA,sB,sC];refine @wQ _ _ _ _ _ _ _ ?_ ?_;kernel_rfl;intro K hK;go_simp;refine hK _ _ ?_;clear hK K;refine wpList_store_row rfl 27 _ _ rfl (rb) #[.slice lad8 n8 lc8,.slice pad8 q8 pc8] rfl rfl 27 #[.slice none 0 0,.slice none 0 0] S13.out.r treeInfo rfl (tree_all _ _ _ _ _ _) ?_
   simp only [Act.put];refine @wQ _ _ _ _ _ _ _ ?_ ?_;kernel_rfl;intro K hK;go_simp;refine hK _ _ ?_;clear hK K;obtain⟨kz9,rz9⟩:=S13.out.setR #[.slice lad8 n8 lc8,.slice pad8 q8 pc8];have gz:=grown_setRow w13 rb #[.slice lad8 n8 lc8,.slice pad8 q8 pc8];have mz:=(MA11.out.kept KC13.out).aside (b:=rb) HAB.out.2.2.1 gz;have KZ:=hid kz9;have MZ:=hid mz;have RZ:=hid rz9;clear kz9 rz9 mz gz;generalize w13.setRow rb #[.slice lad8 n8 lc8,.slice pad8 q8 pc8] = wz at KZ MZ RZ ⊢;go_wp2;refine bodyPost_ret (results_row2 rfl _ _ rb 27 _ (0,0) _ rfl RZ.out Tryz.underlying27 rfl treeInfo) rfl ?_
   have hm9:=MZ.out.mono (B':=B0) HAB.out.2.2.2;have hr9:=HRZ.out;have hk9:=KZ.out;clear MZ HRZ KZ;exact⟨_,_,rfl,hk9,L9,P9,hr9,_,hm9⟩
  ·have hne:(er != 0) = true:=bne_iff_ne.2 hz
   clear hz
   go_upto_region 21 with fail
   refine wp_region_lit ?_;iterate 2 (refine @wQ _ _ _ _ _ _ _ ?_ ?_;kernel_rfl;intro K hK;go_simp;refine hK _ _ ?_;clear hK K)
   go_upto_region 22 with fail
   refine wp_region_lit ?_;refine @wpList_load_known _ _ _ _ _ _ _ ?_ 27 (.tmp 2) rfl (tb) (0) rfl (.agg #[.slice lad ln lc,.slice pad pn pc]) (HLB.out _ _ _ S13.out) ?_;kernel_rfl
   simp only [Act.put,sA,sB,sC];refine @wQ _ _ _ _ _ _ _ ?_ ?_;kernel_rfl;intro K hK;go_simp;refine hK _ _ ?_;clear hK K;refine wpList_store_row rfl 27 _ _ rfl (rb) #[.slice lad ln lc,.slice pad pn pc] rfl rfl 27 #[.slice none 0 0,.slice none 0 0] S13.out.r treeInfo rfl (tree_all _ _ _ _ _ _) ?_
   simp only [Act.put];refine @wQ _ _ _ _ _ _ _ ?_ ?_;kernel_rfl;intro K hK;go_simp;refine hK _ _ ?_;clear hK K;obtain⟨kz9,rz9⟩:=S13.out.setR #[.slice lad ln lc,.slice pad pn pc];have gz:=grown_setRow w13 rb #[.slice lad ln lc,.slice pad pn pc];have mz:=(MT11.out.kept KC13.out).aside (b:=rb) (.inl rfl) gz;have KZ:=hid kz9;have MZ:=hid mz;have RZ:=hid rz9;clear kz9 rz9 mz gz;generalize w13.setRow rb #[.slice lad ln lc,.slice pad pn pc] = wz at KZ MZ RZ ⊢;go_wp2;refine bodyPost_ret (results_row2 rfl _ _ rb 27 _ (0,0) _ rfl RZ.out Tryz.underlying27 rfl treeInfo) rfl ?_
   have hm9:=MZ.out.mono (B':=B0) (fun _ h=>.inr (.inr (.inr h)))
   have hr9:=HRR.out;have hk9:=KZ.out;clear MZ HRR KZ;exact⟨_,_,rfl,hk9,L,P,hr9,_,hm9⟩
 ·subst h0
  obtain⟨m,hm⟩:=HLEN.out pi;have HKC2:=hid (HKC.out pi m hm.symm);obtain⟨KS,hKS⟩:∃ x,x = Tt.keysOf a.key m:=⟨_,rfl⟩;rw [← hKS] at HKC2;obtain⟨L9,hL9⟩:∃ x,x = Tt.pathL L P pi l.pub KS:=⟨_,rfl⟩;obtain⟨P9,hP9⟩:∃ x,x = Tt.pathP L P pi KS:=⟨_,rfl⟩;obtain⟨er,her⟩:∃ x,x = Tt.pathErr L pi KS.length:=⟨_,rfl⟩;have H1:=hid (HD.out pi KS);have H2:=hid (XD.out pi KS);have NX:=hid (ND.out pi KS);rw [← hL9,← hP9,← her] at H1;rw [← hL9,← hP9,← her] at H2;rw [← hL9,← hP9,← her] at NX;clear hL9 hP9 her hm hKS HA XA HB XB HC XC HD XD NA NB NC ND HKC
  go_upto_region 18 with fail
  refine wp_region_noPanic ?_;refine wp_region_held_drew (S:=fun u=>∃ VA VC,Sm8 w u tb xb rb fb yb ab cb #[.slice lad ln lc,.slice pad pn pc] DX #[.slice none 0 0,.slice none 0 0] DL #[.slice lad4 ln lc4,.slice pad4 pn pc4] VA VC) (by kernel_rfl) (⟨_,_,S7.out.kept ((Kept.refl _ _ _).drew)⟩) (fun hH=>?_)
  refine wpAnyH_take_at (i:=0) 88 (.agg #[.slice lad ln lc,.slice pad pn pc]) rfl rfl (by kernel_rfl) (by kernel_rfl) (by kernel_rfl) (fun _ _ _ h=>h) (yieldsIf_load_known (by kernel_rfl) 27 _ rfl (tb) (0) rfl (.agg #[.slice lad ln lc,.slice pad pn pc]) (fun u hu=>(by obtain⟨VA9,VC9,s9⟩:=hu; exact HLB.out _ _ _ s9))) hH ?_
  simp only [sA,sB,sC];refine wpAnyH_take_ex (i:=1) 89 rfl rfl (by kernel_rfl) (by kernel_rfl) (by kernel_rfl) (fun _ _ _ _ h=>h) (by kernel_rfl) hH ?_
  apply Exists.intro;apply And.intro
  ·intro w9 _
   go_simp
   first | done | rfl
  simp only [sA,sB,sC];refine wpAnyH_take_ex (i:=2) 90 rfl rfl (by kernel_rfl) (by kernel_rfl) (by kernel_rfl) (fun _ _ _ _ h=>h) (by kernel_rfl) hH ?_
  apply Exists.intro;apply And.intro
  ·intro w9 _
   go_simp
   first | done | rfl
  simp only [sA,sB,sC];refine wpAnyH_take_at (i:=3) 91 (.agg DP) rfl rfl (by kernel_rfl) (by kernel_rfl) (by kernel_rfl) (fun _ _ _ h=>h) (yieldsIf_load_known (by kernel_rfl) 35 _ rfl (fb) (1) rfl (.agg DP) (fun u hu=>(by obtain⟨VA9,VC9,s9⟩:=hu; exact HLQ.out _ _ _ s9))) hH ?_
  simp only [sA,sB,sC];refine wpAnyH_take_at (i:=4) 92 (.agg #[.slice lad ln lc,.slice pad pn pc]) rfl rfl (by kernel_rfl) (by kernel_rfl) (by kernel_rfl) (fun _ _ _ h=>h) (yieldsIf_load_known (by kernel_rfl) 27 _ rfl (tb) (0) rfl (.agg #[.slice lad ln lc,.slice pad pn pc]) (fun u hu=>(by obtain⟨VA9,VC9,s9⟩:=hu; exact HLB.out _ _ _ s9))) hH ?_
  simp only [sA,sB,sC];refine wpAnyH_take_ex (i:=5) 93 rfl rfl (by kernel_rfl) (by kernel_rfl) (by kernel_rfl) (fun _ _ _ _ h=>h) (by kernel_rfl) hH ?_
  apply Exists.intro;apply And.intro
  ·intro w9 _
   go_simp
   first | done | rfl
  simp only [sA,sB,sC];refine wpAnyH_take_ex (i:=6) 94 rfl rfl (by kernel_rfl) (by kernel_rfl) (by kernel_rfl) (fun _ _ _ _ h=>h) (by kernel_rfl) hH ?_
  apply Exists.intro;apply And.intro
  ·intro w9 _
   go_simp
   first | done | rfl
  simp only [sA,sB,sC];refine wpAnyH_take_at (i:=7) 95 (.int .u8 kz) rfl rfl (by kernel_rfl) (by kernel_rfl) (by kernel_rfl) (fun _ _ _ h=>h) (yieldsIf_load_known (by kernel_rfl) 5 _ rfl (xb) (3) rfl (.int .u8 kz) (fun u hu=>(by obtain⟨VA9,VC9,s9⟩:=hu; exact HLK.out _ _ _ s9))) hH ?_
  simp only [sA,sB,sC];refine wpAnyH_ready (rs:=[8]) (by kernel_rfl) (by simp) ?_
  refine AllReadyH.cons rfl (fun K hK=>?_) AllReadyH.nil
  rw [if_pos (by rfl)]
  go_simp
  go_wp2_with (go_at_call 21; refine(HKC2.out _).mono ?_; rintro e vk ⟨kv,rfl,okv,kvk⟩)
  obtain⟨kad,kc,rfl⟩:=ownh_shape okv;have SK:=S7.out.kept ((Kept.refl _ _ _).drew.onto kvk);have HSK:=okv.hs;refine hK.out _ _ ⟨_,_,SK⟩ (fun hH=>?_)
  clear hK K okv;refine wpAnyH_ready (rs:=[9]) (by kernel_rfl) (by simp) ?_
  refine AllReadyH.cons rfl (fun K hK=>?_) AllReadyH.nil
  rw [if_pos (by rfl)]
  go_simp
  go_wp2_with (go_at_call 14; refine(H1.out _ vk (MT.out.kept ((Kept.refl _ _ _).drew.onto kvk)) SK.k _ HSK).mono ?_; rintro e w8 ⟨lv8,pv8,rfl,k8,SL8,m8⟩)
  have k7v:=(Kept.refl w7.heap.size w7.heap.size w7).drew.onto kvk;obtain⟨lad8,lc8,rfl⟩:=m8.lvs.shape;obtain⟨pad8,pc8,rfl⟩:=m8.pts.shape;obtain⟨n8,hn8⟩:∃ n8,n8 = L9.length:=⟨_,rfl⟩;obtain⟨q8,hq8⟩:∃ q8,q8 = P9.length:=⟨_,rfl⟩;rw [← hn8,← hq8] at m8 ⊢;clear hn8 hq8;have S8:=hid (S7.out.kept (k7v.onto k8));have MT8:=hid (MT.out.kept (k7v.onto k8));have MY8:=hid (MY.out.kept (k7v.onto k8));have MA8:=hid m8;have HAB:=hid (show ab < vk.heap.size∧cb < vk.heap.size∧rb < vk.heap.size∧∀ k,B0 k→k < vk.heap.size from⟨lt_of_block SK.a,lt_of_block SK.c,lt_of_block SK.r,fun k h=>Nat.lt_of_lt_of_le (HB0.out k h) SK.k.size⟩)
  clear k8 m8 k7v SK HSK kvk;refine hK.out _ _ ⟨_,_,S8.out⟩ (fun hH=>?_)
  clear hK K;refine wpAnyH_take_ex (i:=10) 87 rfl rfl (by kernel_rfl) (by kernel_rfl) (by kernel_rfl) (fun _ _ _ _ h=>h) (by kernel_rfl) hH ?_
  apply Exists.intro;apply And.intro
  ·intro w9 _
   go_simp
   first | done | rfl
  simp only [sA,sB,sC];refine wpAnyH_take_ex (i:=11) 98 rfl rfl (by kernel_rfl) (by kernel_rfl) (by kernel_rfl) (fun _ _ _ _ h=>h) (by kernel_rfl) hH ?_
  apply Exists.intro;apply And.intro
  ·intro w9 _
   go_simp
   first | done | rfl
  simp only [sA,sB,sC];refine wpAnyH_take_ex (i:=12) 99 rfl rfl (by kernel_rfl) (by kernel_rfl) (by kernel_rfl) (fun _ _ _ _ h=>h) (by kernel_rfl) hH ?_
  apply Exists.intro;apply And.intro
  ·intro w9 _
   go_simp
   first | done | rfl
  simp only [sA,sB,sC];refine wpAnyH_ready (rs:=[13]) (by kernel_rfl) (by simp) ?_
  refine AllReadyH.cons rfl (fun K hK=>?_) AllReadyH.nil
  rw [if_pos (by rfl)]
  refine wp_store_row_none11 27 _ _ rfl rfl ab #[.slice lad8 n8 lc8,.slice pad8 q8 pc8] rfl rfl 27 #[.slice none 0 0,.slice none 0 0] S8.out.a treeInfo rfl (tree_all _ _ _ _ _ _) ?_
  have g9:=grown_setRow w8 ab #[.slice lad8 n8 lc8,.slice pad8 q8 pc8];have S9:=hid (S8.out.setA #[.slice lad8 n8 lc8,.slice pad8 q8 pc8]);have MT9:=hid (MT8.out.aside (b:=ab) (.inr (.inl rfl)) g9);have MY9:=hid (MY8.out.aside (b:=ab) (.inl rfl) g9);have MA9:=hid (MA8.out.aside (b:=ab) HAB.out.1 g9);generalize w8.setRow ab #[.slice lad8 n8 lc8,.slice pad8 q8 pc8] = w9 at g9 S9 MT9 MY9 MA9 ⊢;clear g9 S8 MT8 MY8 MA8;refine hK.out _ _ ⟨_,_,S9.out⟩ (fun hH=>?_)
  clear hK K;refine wpAnyH_take_ex (i:=14) 11 rfl rfl (by kernel_rfl) (by kernel_rfl) (by kernel_rfl) (fun _ _ _ _ h=>h) (by kernel_rfl) hH ?_
  apply Exists.intro;apply And.intro
  ·intro w9 _
   go_simp
   first | done | rfl
  simp only [sA,sB,sC];refine wpAnyH_done (by kernel_rfl) ?_ _
  refine NoPanic.normal ?_
  go_upto_region 19 with fail
  refine wp_region_noPanic ?_;refine wp_region_held_drew (S:=fun u=>∃ VA VC,Sm8 w u tb xb rb fb yb ab cb #[.slice lad ln lc,.slice pad pn pc] DX #[.slice none 0 0,.slice none 0 0] DL #[.slice lad4 ln lc4,.slice pad4 pn pc4] VA VC) (by kernel_rfl) (⟨_,_,S9.out.kept ((Kept.refl _ _ _).drew)⟩) (fun hH=>?_)
  refine wpAnyH_take_at (i:=0) 101 (.agg #[.slice lad ln lc,.slice pad pn pc]) rfl rfl (by kernel_rfl) (by kernel_rfl) (by kernel_rfl) (fun _ _ _ h=>h) (yieldsIf_load_known (by kernel_rfl) 27 _ rfl (tb) (0) rfl (.agg #[.slice lad ln lc,.slice pad pn pc]) (fun u hu=>(by obtain⟨VA9,VC9,s9⟩:=hu; exact HLB.out _ _ _ s9))) hH ?_
  simp only [sA,sB,sC];refine wpAnyH_take_ex (i:=1) 102 rfl rfl (by kernel_rfl) (by kernel_rfl) (by kernel_rfl) (fun _ _ _ _ h=>h) (by kernel_rfl) hH ?_
  apply Exists.intro;apply And.intro
  ·intro w9 _
   go_simp
   first | done | rfl
  simp only [sA,sB,sC];refine wpAnyH_take_ex (i:=2) 103 rfl rfl (by kernel_rfl) (by kernel_rfl) (by kernel_rfl) (fun _ _ _ _ h=>h) (by kernel_rfl) hH ?_
  apply Exists.intro;apply And.intro
  ·intro w9 _
   go_simp
   first | done | rfl
  simp only [sA,sB,sC];refine wpAnyH_take_at (i:=3) 104 (.agg DP) rfl rfl (by kernel_rfl) (by kernel_rfl) (by kernel_rfl) (fun _ _ _ h=>h) (yieldsIf_load_known (by kernel_rfl) 35 _ rfl (fb) (1) rfl (.agg DP) (fun u hu=>(by obtain⟨VA9,VC9,s9⟩:=hu; exact HLQ.out _ _ _ s9))) hH ?_
  simp only [sA,sB,sC];refine wpAnyH_take_at (i:=4) 105 (.agg #[.slice lad ln lc,.slice pad pn pc]) rfl rfl (by kernel_rfl) (by kernel_rfl) (by kernel_rfl) (fun _ _ _ h=>h) (yieldsIf_load_known (by kernel_rfl) 27 _ rfl (tb) (0) rfl (.agg #[.slice lad ln lc,.slice pad pn pc]) (fun u hu=>(by obtain⟨VA9,VC9,s9⟩:=hu; exact HLB.out _ _ _ s9))) hH ?_
  simp only [sA,sB,sC];refine wpAnyH_take_ex (i:=5) 106 rfl rfl (by kernel_rfl) (by kernel_rfl) (by kernel_rfl) (fun _ _ _ _ h=>h) (by kernel_rfl) hH ?_
  apply Exists.intro;apply And.intro
  ·intro w9 _
   go_simp
   first | done | rfl
  simp only [sA,sB,sC];refine wpAnyH_take_ex (i:=6) 107 rfl rfl (by kernel_rfl) (by kernel_rfl) (by kernel_rfl) (fun _ _ _ _ h=>h) (by kernel_rfl) hH ?_
  apply Exists.intro;apply And.intro
  ·intro w9 _
   go_simp
   first | done | rfl
  simp only [sA,sB,sC];refine wpAnyH_take_at (i:=7) 108 (.int .u8 kz) rfl rfl (by kernel_rfl) (by kernel_rfl) (by kernel_rfl) (fun _ _ _ h=>h) (yieldsIf_load_known (by kernel_rfl) 5 _ rfl (xb) (3) rfl (.int .u8 kz) (fun u hu=>(by obtain⟨VA9,VC9,s9⟩:=hu; exact HLK.out _ _ _ s9))) hH ?_
  simp only [sA,sB,sC];refine wpAnyH_ready (rs:=[8]) (by kernel_rfl) (by simp) ?_
  refine AllReadyH.cons rfl (fun K hK=>?_) AllReadyH.nil
  rw [if_pos (by rfl)]
  go_simp
  go_wp2_with (go_at_call 21; refine(HKC2.out _).mono ?_; rintro e vk ⟨kv,rfl,okv,kvk⟩)
  obtain⟨kad,kc,rfl⟩:=ownh_shape okv;have SK:=S9.out.kept ((Kept.refl _ _ _).drew.onto kvk);have HSK:=okv.hs;refine hK.out _ _ ⟨_,_,SK⟩ (fun hH=>?_)
  clear hK K okv;refine wpAnyH_ready (rs:=[9]) (by kernel_rfl) (by simp) ?_
  refine AllReadyH.cons rfl (fun K hK=>?_) AllReadyH.nil
  rw [if_pos (by rfl)]
  go_simp
  go_wp2_with (go_at_call 19; refine(H2.out _ vk (MT9.out.kept ((Kept.refl _ _ _).drew.onto kvk)) _ HSK).mono ?_; rintro e w10 ⟨lv10,pv10,rfl,k10,SL10,m10⟩)
  have k9v:=(Kept.refl w9.heap.size w9.heap.size w9).drew.onto kvk;obtain⟨lad10,lc10,rfl⟩:=m10.lvs.shape;obtain⟨pad10,pc10,rfl⟩:=m10.pts.shape;obtain⟨n10,hn10⟩:∃ n10,n10 = L9.length:=⟨_,rfl⟩;obtain⟨q10,hq10⟩:∃ q10,q10 = P9.length:=⟨_,rfl⟩;rw [← hn10,← hq10] at m10 ⊢;clear hn10 hq10;have S10:=hid (S9.out.kept (k9v.onto k10));have MT10:=hid (MT9.out.kept (k9v.onto k10));have MY10:=hid (MY9.out.kept (k9v.onto k10));have MA10:=hid (MA9.out.kept (k9v.onto k10));have MC10:=hid m10;have HCB:=hid (show cb < vk.heap.size from lt_of_block SK.c);clear k10 m10 k9v SK HSK kvk;refine hK.out _ _ ⟨_,_,S10.out⟩ (fun hH=>?_)
  clear hK K;refine wpAnyH_take_ex (i:=10) 100 rfl rfl (by kernel_rfl) (by kernel_rfl) (by kernel_rfl) (fun _ _ _ _ h=>h) (by kernel_rfl) hH ?_
  apply Exists.intro;apply And.intro
  ·intro w9 _
   go_simp
   first | done | rfl
  simp only [sA,sB,sC];refine wpAnyH_take_ex (i:=11) 111 rfl rfl (by kernel_rfl) (by kernel_rfl) (by kernel_rfl) (fun _ _ _ _ h=>h) (by kernel_rfl) hH ?_
  apply Exists.intro;apply And.intro
  ·intro w9 _
   go_simp
   first | done | rfl
  simp only [sA,sB,sC];refine wpAnyH_take_ex (i:=12) 112 rfl rfl (by kernel_rfl) (by kernel_rfl) (by kernel_rfl) (fun _ _ _ _ h=>h) (by kernel_rfl) hH ?_
  apply Exists.intro;apply And.intro
  ·intro w9 _
   go_simp
   first | done | rfl
  simp only [sA,sB,sC];refine wpAnyH_ready (rs:=[13]) (by kernel_rfl) (by simp) ?_
  refine AllReadyH.cons rfl (fun K hK=>?_) AllReadyH.nil
  rw [if_pos (by rfl)]
  refine wp_store_row_none11 27 _ _ rfl rfl cb #[.slice lad10 n10 lc10,.slice pad10 q10 pc10] rfl rfl 27 #[.slice none 0 0,.slice none 0 0] S10.out.c treeInfo rfl (tree_all _ _ _ _ _ _) ?_
  have g11:=grown_setRow w10 cb #[.slice lad10 n10 lc10,.slice pad10 q10 pc10];have S11:=hid (S10.out.setC #[.slice lad10 n10 lc10,.slice pad10 q10 pc10]);have MT11:=hid (MT10.out.aside (b:=cb) (.inr (.inr (.inl rfl))) g11);have MY11:=hid (MY10.out.aside (b:=cb) (.inr rfl) g11);have MA11:=hid (MA10.out.aside (b:=cb) HAB.out.2.1 g11);have MC11:=hid (MC10.out.aside (b:=cb) HCB.out g11);generalize w10.setRow cb #[.slice lad10 n10 lc10,.slice pad10 q10 pc10] = w11 at g11 S11 MT11 MY11 MA11 MC11 ⊢;clear g11 S10 MT10 MY10 MA10 MC10;refine hK.out _ _ ⟨_,_,S11.out⟩ (fun hH=>?_)
  clear hK K;refine wpAnyH_take_ex (i:=14) 12 rfl rfl (by kernel_rfl) (by kernel_rfl) (by kernel_rfl) (fun _ _ _ _ h=>h) (by kernel_rfl) hH ?_
  apply Exists.intro;apply And.intro
  ·intro w9 _
   go_simp
   first | done | rfl
  simp only [sA,sB,sC];refine wpAnyH_done (by kernel_rfl) ?_ _
  refine NoPanic.normal ?_;obtain⟨hl9,hp9,hs9,hr9⟩:=NX.out;have HSA:=hid (fun(u:World) (k:Kept w11.heap.size w11.heap.size w11 u)=>treesame_calls _ _ _ _ _ _ L9 P9 SL8 SL10 u (MA11.out.kept k) (MC11.out.kept k) hl9 hp9 hs9)
  have HSB:=hid (fun(u:World) (k:Kept w11.heap.size w11.heap.size w11 u)=>treesame_calls _ _ _ _ _ _ L P SL SL4 u (MT11.out.kept k) (MY11.out.kept k) HN.out HPP.out HPL.out)
  have HR9:=hid hr9;clear hl9 hp9 hs9 hr9
  go_upto_region 20 with fail
  refine wp_region_lit ?_;iterate 9 (refine @wQ _ _ _ _ _ _ _ ?_ ?_;kernel_rfl;intro K hK;go_simp;refine hK _ _ ?_;clear hK K)
  refine @wpList_load_known _ _ _ _ _ _ _ ?_ 27 (.tmp 9) rfl (ab) (0) rfl (.agg #[.slice lad8 n8 lc8,.slice pad8 q8 pc8]) (run_loadVar_row w11 ab 27 27 _ (0,0) _ S11.out.a Tryz.underlying27 rfl treeInfo) ?_;kernel_rfl
  simp only [Act.put,sA,sB,sC];refine @wpList_load_known _ _ _ _ _ _ _ ?_ 27 (.tmp 10) rfl (cb) (0) rfl (.agg #[.slice lad10 n10 lc10,.slice pad10 q10 pc10]) (run_loadVar_row w11 cb 27 27 _ (0,0) _ S11.out.c Tryz.underlying27 rfl treeInfo) ?_;kernel_rfl
  simp only [Act.put,sA,sB,sC];refine @wQ _ _ _ _ _ _ _ ?_ ?_;kernel_rfl;intro K hK;go_simp;go_at_call 24
  refine(HSA.out _ (Kept.refl _ _ _)).mono ?_;rintro e w12 ⟨rfl,k12⟩;have S12:=hid (S11.out.kept k12);have KC:=hid k12;clear k12;refine hK _ _ ?_;clear hK K;iterate 2 (refine @wQ _ _ _ _ _ _ _ ?_ ?_;kernel_rfl;intro K hK;go_simp;refine hK _ _ ?_;clear hK K)
  refine @wpList_load_known _ _ _ _ _ _ _ ?_ 27 (.tmp 2) rfl (tb) (0) rfl (.agg #[.slice lad ln lc,.slice pad pn pc]) (HLB.out _ _ _ S12.out) ?_;kernel_rfl
  simp only [Act.put,sA,sB,sC];refine @wpList_load_known _ _ _ _ _ _ _ ?_ 27 (.tmp 8) rfl (yb) (0) rfl (.agg #[.slice lad4 ln lc4,.slice pad4 pn pc4]) (run_loadVar_row w12 yb 27 27 _ (0,0) _ S12.out.y Tryz.underlying27 rfl treeInfo) ?_;kernel_rfl
  simp only [Act.put,sA,sB,sC];refine @wQ _ _ _ _ _ _ _ ?_ ?_;kernel_rfl;intro K hK;go_simp;go_at_call 24
  refine(HSB.out _ KC.out).mono ?_;rintro e w13 ⟨rfl,k13⟩;have S13:=hid (S12.out.kept k13);have KC13:=hid (KC.out.onto k13);clear k13;refine hK _ _ ?_;clear hK K;iterate 2 (refine @wQ _ _ _ _ _ _ _ ?_ ?_;kernel_rfl;intro K hK;go_simp;refine hK _ _ ?_;clear hK K)
  by_cases hz:er = 0
  ·have HRZ:=hid (HR9.out hz)
   have hne:(er != 0) = false:=by rw [hz]; rfl
   clear hz
   go_upto_region 21 with fail
   refine wp_region_lit ?_;iterate 2 (refine @wQ _ _ _ _ _ _ _ ?_ ?_;kernel_rfl;intro K hK;go_simp;refine hK _ _ ?_;clear hK K)
   go_upto_region 23 with fail
   refine wp_region_lit ?_;refine @wpList_load_known _ _ _ _ _ _ _ ?_ 27 (.tmp 9) rfl (ab) (0) rfl (.agg #[.slice lad8 n8 lc8,.slice pad8 q8 pc8]) (run_loadVar_row w13 ab 27 27 _ (0,0) _ S13.out.a Tryz.underlying27 rfl treeInfo) ?_;kernel_rfl
   simp only [Act.put,sA,sB,sC];refine @wQ _ _ _ _ _ _ _ ?_ ?_;kernel_rfl;intro K hK;go_simp;refine hK _ _ ?_;clear hK K;refine wpList_store_row rfl 27 _ _ rfl (rb) #[.slice lad8 n8 lc8,.slice pad8 q8 pc8] rfl rfl 27 #[.slice none 0 0,.slice none 0 0] S13.out.r treeInfo rfl (tree_all _ _ _ _ _ _) ?_
   simp only [Act.put];refine @wQ _ _ _ _ _ _ _ ?_ ?_;kernel_rfl;intro K hK;go_simp;refine hK _ _ ?_;clear hK K;obtain⟨kz9,rz9⟩:=S13.out.setR #[.slice lad8 n8 lc8,.slice pad8 q8 pc8];have gz:=grown_setRow w13 rb #[.slice lad8 n8 lc8,.slice pad8 q8 pc8];have mz:=(MA11.out.kept KC13.out).aside (b:=rb) HAB.out.2.2.1 gz;have KZ:=hid kz9;have MZ:=hid mz;have RZ:=hid rz9;clear kz9 rz9 mz gz;generalize w13.setRow rb #[.slice lad8 n8 lc8,.slice pad8 q8 pc8] = wz at KZ MZ RZ ⊢;go_wp2;refine bodyPost_ret (results_row2 rfl _ _ rb 27 _ (0,0) _ rfl RZ.out Tryz.underlying27 rfl treeInfo) rfl ?_
   have hm9:=MZ.out.mono (B':=B0) HAB.out.2.2.2;have hr9:=HRZ.out;have hk9:=KZ.out;clear MZ HRZ KZ;exact⟨_,_,rfl,hk9,L9,P9,hr9,_,hm9⟩
  ·have hne:(er != 0) = true:=bne_iff_ne.2 hz
   clear hz
   go_upto_region 21 with fail
   refine wp_region_lit ?_;iterate 2 (refine @wQ _ _ _ _ _ _ _ ?_ ?_;kernel_rfl;intro K hK;go_simp;refine hK _ _ ?_;clear hK K)
   go_upto_region 22 with fail
   refine wp_region_lit ?_;refine @wpList_load_known _ _ _ _ _ _ _ ?_ 27 (.tmp 2) rfl (tb) (0) rfl (.agg #[.slice lad ln lc,.slice pad pn pc]) (HLB.out _ _ _ S13.out) ?_;kernel_rfl
   simp only [Act.put,sA,sB,sC];refine @wQ _ _ _ _ _ _ _ ?_ ?_;kernel_rfl;intro K hK;go_simp;refine hK _ _ ?_;clear hK K;refine wpList_store_row rfl 27 _ _ rfl (rb) #[.slice lad ln lc,.slice pad pn pc] rfl rfl 27 #[.slice none 0 0,.slice none 0 0] S13.out.r treeInfo rfl (tree_all _ _ _ _ _ _) ?_
   simp only [Act.put];refine @wQ _ _ _ _ _ _ _ ?_ ?_;kernel_rfl;intro K hK;go_simp;refine hK _ _ ?_;clear hK K;obtain⟨kz9,rz9⟩:=S13.out.setR #[.slice lad ln lc,.slice pad pn pc];have gz:=grown_setRow w13 rb #[.slice lad ln lc,.slice pad pn pc];have mz:=(MT11.out.kept KC13.out).aside (b:=rb) (.inl rfl) gz;have KZ:=hid kz9;have MZ:=hid mz;have RZ:=hid rz9;clear kz9 rz9 mz gz;generalize w13.setRow rb #[.slice lad ln lc,.slice pad pn pc] = wz at KZ MZ RZ ⊢;go_wp2;refine bodyPost_ret (results_row2 rfl _ _ rb 27 _ (0,0) _ rfl RZ.out Tryz.underlying27 rfl treeInfo) rfl ?_
   have hm9:=MZ.out.mono (B':=B0) (fun _ h=>.inr (.inr (.inr h)))
   have hr9:=HRR.out;have hk9:=KZ.out;clear MZ HRR KZ;exact⟨_,_,rfl,hk9,L,P,hr9,_,hm9⟩
end Go.Proofs.YtaobiofngnfdiaaGreatDoor
