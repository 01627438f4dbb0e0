/-
 The landed Insert.
-/
import Derived.Test.YtfbfdaeagpdaiaaDagDrop
import Derived.Test.YtfbfdaeagpdaiaaDagAll
set_option maxRecDepth 100000
set_option maxHeartbeats 12800000
namespace Go.Proofs.Ytfbfdaeagpdaiaa
open Go.RowKit Go.Lib
open List renaming setIfInBounds_toArray → sA, set_cons_zero → sB, set_cons_succ → sC
open BigFrame renaming wpList_want → wQ
theorem Dst.ext {w:World}{sb n:Nat}{F:Nat→Prop}{keep:Int}{L L':List Vx}{h:Option Vx}{P:List (List UInt8)}(d:Dst w sb F keep n L h P)(hm:∀ u,u∈L↔u∈L')(st:Dg.St0 L' h):Dst w sb F keep n L' h P:=by
 obtain⟨vb,bb,hd,d⟩:=d;have hl:L.length = L'.length:=((List.perm_ext_iff_of_nodup (Dg.nodup_of_ids d.st.nodup) (Dg.nodup_of_ids st.nodup)).2 hm).length_eq;exact⟨vb,bb,hd,d.blk,d.hd32,d.vp.ext hm hl,d.bp,d.fs,d.fv,d.fb,d.ne,d.lt,d.top,st,d.kp,d.nn⟩
theorem Vs.far {w w':World}{v:Value}{R:List Vx}{F:Nat→Prop}(h:Vs w v R)(k:Dfr F w w')(hn:∀ g,v.ownBlock = some g→¬ F g):Vs w' v R:=by
 obtain⟨h0,ad,g,c,rfl,h1⟩:=h;refine⟨h0,ad,g,c,rfl,fun i hi=>?_⟩
 obtain⟨a,b,d⟩:=h1 i hi;subst a;refine⟨rfl,Nat.lt_of_lt_of_le b k.size,fun j u hu=>?_⟩
 rw [World.cell?_of_block (a:=⟨g,i * 66 + j,none⟩) (w:=w) (k.block g b (hn g rfl))];exact d j u hu
theorem Dst.fsize {w:World}{sb n:Nat}{F:Nat→Prop}{keep:Int}{L:List Vx}{h:Option Vx}{P:List (List UInt8)}(d:Dst w sb F keep n L h P):∀ k,F k→k < w.heap.size:=by
 obtain⟨vb,bb,hd,d⟩:=d;exact d.lt
theorem Dst.st0 {w:World}{sb n:Nat}{F:Nat→Prop}{keep:Int}{L:List Vx}{h:Option Vx}{P:List (List UInt8)}(d:Dst w sb F keep n L h P):Dg.St0 L h:=by
 obtain⟨vb,bb,hd,d⟩:=d;exact d.st
theorem Dst.keeps {w:World}{sb n:Nat}{F:Nat→Prop}{keep:Int}{L:List Vx}{h:Option Vx}{P:List (List UInt8)}(d:Dst w sb F keep n L h P):1≤keep∧keep≤64:=by
 obtain⟨vb,bb,hd,d⟩:=d;exact d.kp
def InsP (w:World)(sb:Nat)(F:Nat→Prop)(keep:Int)(n:Nat)(L:List Vx)(h:Option Vx)(P:List (List UInt8))(v:Vx)(e:Ending)(w':World):Prop:=
 ∃ F':Nat→Prop,(∀ k,F' k→F k∨w.heap.size≤k)∧Dfr F w w' ∧
  ((∃ er:Int,er≠0∧e = .returned (.tuple #[.slice none 0 0,.int .i64 er])∧¬ Enough keep L h P v∧Dst w' sb F' keep n L h P) ∨
   (∃ (ad:Option Addr) (ln c:Nat),e = .returned (.tuple #[.slice ad ln c,.int .i64 0])∧ln = (Dg.gone keep L h v).length∧Need keep L h v∧Dst w' sb F' keep (n + 1) (Dg.after keep L h v) (some (Dg.newTop h v)) (v.par :: P)))
def leftL (M R:List Vx)(k:Nat):List Vx:=M.filter fun u=>!((Dg.ids (R.take k)).contains u.id)
theorem mem_left15 {M R:List Vx}{k:Nat}{u:Vx}:u∈leftL M R k↔u∈M∧u.id∉Dg.ids (R.take k):=by simp [leftL]
theorem left_zero (M R:List Vx):leftL M R 0 = M:=by simp [leftL,Dg.ids]
theorem left_step {M R:List Vx}{k:Nat}(hk:k < R.length):but (leftL M R k) (R[k]).id = leftL M R (k + 1):=by
 unfold but leftL;rw [List.filter_filter];refine List.filter_congr fun u _=>?_
 rw [List.take_succ_eq_append_getElem hk]
 have e:(Dg.ids (R.take k ++ [R[k]])).contains u.id = ((Dg.ids (R.take k)).contains u.id || u.id == (R[k]).id):=by
  rw [Bool.eq_iff_iff];simp only [Dg.ids,List.map_append,List.map_cons,List.map_nil,List.contains_iff_mem,List.mem_append,List.mem_singleton,Bool.or_eq_true,beq_iff_eq]
 rw [e]
 cases (Dg.ids (R.take k)).contains u.id <;> cases (u.id == (R[k]).id) <;> rfl
theorem insert15 {sb n:Nat}{F:Nat→Prop}{keep:Int}{L:List Vx}{h:Option Vx}{P:List (List UInt8)}(w:World)(ds:Dst w sb F keep n L h P)(hst:Dg.St keep L h)(v:Vx)(hv:v.Ok)(hm:n + 1≤100000):
  Calls Try.prog 7 #[.pointer (some ⟨sb,0,none⟩),v.val] w (InsP w sb F keep n L h P v):=by
 obtain⟨hk1,hk2⟩:=ds.keeps;have HDS:=hid ds;have HCK:=hid (fun(x:World) (k:Kept w.heap.size w.heap.size w x)=>check15 x (ds.kept k) v hv)
 have HFL:=hid (fun(x:World) (k:Kept w.heap.size w.heap.size w x)=>floor15 x (ds.kept k))
 have HPU:=hid (fun(x:World) (k:Kept w.heap.size w.heap.size w x) (hn:Need keep L h v)=>put15 x (ds.kept k) v hv hn hm)
 have HVA:=hid (fun(x:World) (g:Nat) (hg:Vb x g v)=>hg.all hv)
 have HVW:=hid (show ∀ (x:World) (g:Nat),x.heap[g]? = some (.cells v.cells.toArray 36 (0,0))→Vb x g v from fun x g h=>h)
 have HF2:=hid (fun(x:World) (F':Nat→Prop) (d:Dst x sb F' keep (n + 1) (v :: L) (some (Dg.newTop h v)) (v.par :: P))=>floor15 x d)
 have HSF:=hid (fun(x:World) (F':Nat→Prop) (d:Dst x sb F' keep (n + 1) (v :: L) (some (Dg.newTop h v)) (v.par :: P)) (B:Nat) (fl:Int) (hB:Boxed x B 3 (.int .i64 fl))=>sorted_low15 x d B fl hB)
 have HSAME:Hid (Need keep L h v→Dg.floor keep (some (Dg.newTop h v)) = Dg.floor keep h→(∀ u,u∈v :: L↔u∈Dg.after keep L h v)∧(Dg.gone keep L h v).length = 0):=hid (fun hn he=>by
  have hall:∀ u∈v :: L,Dg.floor keep (some (Dg.newTop h v))≤u.dep:=fun u hu=>by
   rw [he]
   rcases List.mem_cons.1 hu with rfl | hu
   ·exact hn.2.2.2
   ·exact hst.above u hu
  refine⟨fun u=>?_,?_⟩
  ·rw [Dg.mem_after,List.mem_cons]
   exact⟨fun hu=>⟨hu,hall u (List.mem_cons.2 hu)⟩,fun hu=>hu.1⟩
  ·rw [Dg.gone,List.length_eq_zero_iff,List.filter_eq_nil_iff]
   intro u hu;have:=hall u hu
   simpa using this)
 have HSI:Hid (Need keep L h v→Dg.St0 (Dg.after keep L h v) (some (Dg.newTop h v))):=hid (fun hn=>(hst.insert (by omega) hv hn.1 hn.2.1 hn.2.2.1).toSt0)
 have HEND:Hid (∀ R:List Vx,R.Perm ((v :: L).filter fun u=>decide (u.dep < Dg.floor keep (some (Dg.newTop h v))))→Need keep L h v→(∀ u,u∈leftL (v :: L) R R.length↔u∈Dg.after keep L h v)∧R.length = (Dg.gone keep L h v).length∧(∀ u∈R,u∈v :: L∧(Dg.newTop h v).id≠u.id)∧(Dg.ids R).Nodup):=hid (fun R hR hn=>by
  have hs0:=hst.toSt0.cons hv hn.1 hn.2.1 hn.2.2.1;have hmem:∀ u,u∈R↔u∈v :: L∧u.dep < Dg.floor keep (some (Dg.newTop h v)):=fun u=>by rw [hR.mem_iff,List.mem_filter]; simp
  have hlow:=Dg.floor_low (keep:=keep) (by omega) (hs0.ok _ hs0.top.1).2.1
  refine⟨fun u=>?_,hR.length_eq,fun u hu=>?_,?_⟩
  ·rw [mem_left15,List.take_length,Dg.mem_after,← List.mem_cons]
   refine and_congr_right fun hu=>?_
   constructor
   ·intro hid
    by_cases hd:u.dep < Dg.floor keep (some (Dg.newTop h v))
    ·exact absurd (List.mem_map.2 ⟨u,(hmem u).2 ⟨hu,hd⟩,rfl⟩) hid
    ·omega
   ·intro hd hid
    obtain⟨x,hx,e⟩:=List.mem_map.1 hid;obtain⟨h1,h2⟩:=(hmem x).1 hx;rw [Dg.ids_one hs0.nodup h1 hu e] at h2
    omega
  ·obtain⟨h1,h2⟩:=(hmem u).1 hu
   refine⟨h1,fun e=>?_⟩
   rw [← Dg.ids_one hs0.nodup hs0.top.1 h1 e] at h2
   omega
  ·have h1:(Dg.ids ((v :: L).filter fun u=>decide (u.dep < Dg.floor keep (some (Dg.newTop h v))))).Nodup:=hs0.nodup.sublist (List.Sublist.map _ List.filter_sublist)
   exact((hR.map Vx.id).nodup_iff).2 h1)
 have HFB:=hid (show ∀ (F':Nat→Prop) (er:Int) (w':World),(∀ k,F' k→F k∨w.heap.size≤k)→Dfr F w w'→er≠0→¬ Enough keep L h P v→Dst w' sb F' keep n L h P→InsP w sb F keep n L h P v (.returned (.tuple #[.slice none 0 0,.int .i64 er])) w' from fun F' er w' h1 h2 h3 h4 h5=>⟨F',h1,h2,.inl ⟨er,h3,rfl,h4,h5⟩⟩)
 have HFG:=hid (show ∀ (F':Nat→Prop) (ad:Option Addr) (ln c:Nat) (w':World),(∀ k,F' k→F k∨w.heap.size≤k)→Dfr F w w'→ln = (Dg.gone keep L h v).length→Need keep L h v→Dst w' sb F' keep (n + 1) (Dg.after keep L h v) (some (Dg.newTop h v)) (v.par :: P)→InsP w sb F keep n L h P v (.returned (.tuple #[.slice ad ln c,.int .i64 0])) w' from fun F' ad ln c w' h1 h2 h3 h4 h5=>⟨F',h1,h2,.inr ⟨ad,ln,c,rfl,h3,h4,h5⟩⟩)
 have HLM:Hid ((v :: L).length≤100001):=hid (by
  obtain⟨vb,bb,hd,d⟩:=ds;have:=d.nn;obtain⟨D,h1,h2⟩:=d.vp;have:=h1.size_le;rw [h2.size] at this;simp only [List.length_cons]
  omega)
 obtain⟨fl0,hfl0⟩:∃ x,x = Dg.floor keep h:=⟨_,rfl⟩;rw [← hfl0] at HFL HSAME;obtain⟨fl1,hfl1⟩:∃ x,x = Dg.floor keep (some (Dg.newTop h v)):=⟨_,rfl⟩;rw [← hfl1] at HF2 HSAME HEND;unfold Vx.val at HVA HCK HPU ⊢;generalize v.cells.toArray = VC at HVW HVA HCK HPU ⊢;clear ds hst hv hm hk1 hk2 hfl0 hfl1
 go_enter Try.func7,Try.ntmps7
 go_upto_region 0 with fail
 refine wp_region_lit ?_;iterate 3 (refine @wQ _ _ _ _ _ _ _ ?_ ?_;kernel_rfl;intro K hK;go_simp;refine hK _ _ ?_;clear hK K)
 have k2:Kept w.heap.size w.heap.size w (w.alloc (.cells VC 36)):=(Kept.refl _ _ _).alloc (Nat.le_refl _) _
 have b1:=HVW.out _ _ (heap_new w (.cells VC 36))
 obtain⟨g0,hg0⟩:∃ x,x = w.heap.size:=⟨_,rfl⟩;rw [← hg0] at b1;generalize w.alloc (.cells VC 36) = w2 at k2 b1 ⊢
 rw [← hg0];have K2:=hid k2;have B1:=hid b1;clear k2 b1 hg0
 go_upto_region 1 with fail
 refine wp_region_lit ?_;refine @wQ _ _ _ _ _ _ _ ?_ ?_;kernel_rfl;intro K hK;go_simp;refine hK _ _ ?_;clear hK K;refine @wpList_load_known _ _ _ _ _ _ _ ?_ 36 (.tmp 3) rfl (g0) (0) rfl (.agg VC) (HVA.out _ _ B1.out) ?_;kernel_rfl
 simp only [Act.put,sA,sB,sC];refine @wQ _ _ _ _ _ _ _ ?_ ?_;kernel_rfl;intro K hK;go_simp;go_at_call 13
 refine(HCK.out _ K2.out).mono ?_;rintro e w3 ⟨er,rfl,hneed,henough,kx3⟩;refine hK _ _ ?_;clear hK K;refine @wQ _ _ _ _ _ _ _ ?_ ?_;kernel_rfl;intro K hK;go_simp;refine hK _ _ ?_;clear hK K;have K3:=hid (K2.out.onto kx3);have B3:=hid (B1.out.kept kx3);have HN:=hid hneed;have HE:=hid henough;clear kx3 hneed henough
 by_cases her:er = 0
 ·subst her
  have HND:=hid (HN.out rfl)
  go_upto_region 4 with fail
  refine wp_region_lit ?_;refine @wQ _ _ _ _ _ _ _ ?_ ?_;kernel_rfl;intro K hK;go_simp;refine hK _ _ ?_;clear hK K;refine @wQ _ _ _ _ _ _ _ ?_ ?_;kernel_rfl;intro K hK;go_simp;go_at_call 12
  refine(HFL.out _ K3.out).mono ?_;rintro e w4 ⟨rfl,kx4⟩;refine hK _ _ ?_;clear hK K;refine @wQ _ _ _ _ _ _ _ ?_ ?_;kernel_rfl;intro K hK;go_simp;refine hK _ _ ?_;clear hK K;have K4:=hid (K3.out.onto kx4);have B4:=hid (B3.out.kept kx4);clear kx4
  go_upto_region 5 with fail
  refine wp_region_lit ?_;refine @wQ _ _ _ _ _ _ _ ?_ ?_;kernel_rfl;intro K hK;go_simp;refine hK _ _ ?_;clear hK K;refine @wpList_load_known _ _ _ _ _ _ _ ?_ 36 (.tmp 3) rfl (g0) (0) rfl (.agg VC) (HVA.out _ _ B4.out) ?_;kernel_rfl
  simp only [Act.put,sA,sB,sC];refine @wQ _ _ _ _ _ _ _ ?_ ?_;kernel_rfl;intro K hK;go_simp;go_at_call 14
  refine(HPU.out _ K4.out HND.out).mono ?_;rintro e w5 ⟨rfl,F',hsub5,hdf5,hds5⟩;refine hK _ _ ?_;clear hK K;have D5:=hid hds5;have F5:=hid (show ∀ k,F' k→F k∨w.heap.size≤k from fun k hk=>(hsub5 k hk).imp id (fun h=>Nat.le_trans K4.out.size h))
  have A5:=hid ((Dfr.of_kept K4.out:Dfr F w w4).trans hdf5 (fun _ h=>.inl h))
  clear hds5 hsub5 hdf5
  go_upto_region 6 with fail
  refine wp_region_lit ?_;refine @wQ _ _ _ _ _ _ _ ?_ ?_;kernel_rfl;intro K hK;go_simp;refine hK _ _ ?_;clear hK K;refine @wQ _ _ _ _ _ _ _ ?_ ?_;kernel_rfl;intro K hK;go_simp;go_at_call 12
  refine(HF2.out _ _ D5.out).mono ?_;rintro e w6 ⟨rfl,hK6⟩;refine hK _ _ ?_;clear hK K;iterate 2 (refine @wQ _ _ _ _ _ _ _ ?_ ?_;kernel_rfl;intro K hK;go_simp;refine hK _ _ ?_;clear hK K)
  have K6:=hK6;obtain⟨g8,hg8⟩:∃ x,x = w6.heap.size:=⟨_,rfl⟩;have b8:Boxed (w6.alloc (.cells #[.int .i64 fl1] 3)) g8 3 (.int .i64 fl1):=by rw [hg8]; exact heap_new w6 _
  have k7:=K6.alloc K6.size (.cells #[.int .i64 fl1] 3)
  rw [← hg8];generalize w6.alloc (.cells #[.int .i64 fl1] 3) = w7 at b8 k7 ⊢
  have D7:=hid (D5.out.kept k7);have A7:=hid (A5.out.andKept k7);have B8:=hid b8;have c8:=b8.cell;clear b8 k7 K6 hg8 hK6
  by_cases hfl:fl1 = fl0
  ·have hflb:(fl1 == fl0) = true:=by simpa using hfl
   have HFE:=hid hfl;clear hfl;go_wp2;refine bodyPost_ret (results_tmp2 rfl _ _ _) rfl ?_;exact HFG.out F' _ _ _ _ F5.out A7.out (HSAME.out HND.out HFE.out).2.symm HND.out (D7.out.ext (HSAME.out HND.out HFE.out).1 (HSI.out HND.out))
  ·have hflb:(fl1 == fl0) = false:=by simpa using hfl
   clear hfl
   go_upto_region 9 with fail
   refine wp_region_lit ?_;iterate 2 (refine @wQ _ _ _ _ _ _ _ ?_ ?_;kernel_rfl;intro K hK;go_simp;refine hK _ _ ?_;clear hK K)
   refine @wQ _ _ _ _ _ _ _ ?_ ?_;kernel_rfl;intro K hK;go_simp;go_at_call 15
   refine(HSF.out _ _ D7.out g8 fl1 B8.out).mono ?_;rintro e w9 ⟨vv,R,rfl,⟨hok,ad,g2,c,rfl,hat⟩,hperm,hlow,k9⟩;obtain⟨ln,hln⟩:∃ x,x = R.length:=⟨_,rfl⟩;rw [← hln];have HLR:=hid hln;have HZ1:=hid hat;have HZ2:=hid hperm;have HZ3:=hid hlow;have HZ4:=hid k9;have HZ5:=hid hok;clear hln hat hperm hlow k9 hok;refine hK _ _ ?_;clear hK K;refine @wQ _ _ _ _ _ _ _ ?_ ?_;kernel_rfl;intro K hK;go_simp;refine hK _ _ ?_;clear hK K;have hln:=HLR.out;have hat:=HZ1.out;have hperm:=HZ2.out;have hlow:=HZ3.out;have k9:=HZ4.out;have hok:=HZ5.out;clear HZ1 HZ2 HZ3 HZ4 HZ5;have HEN:=hid (HEND.out R hperm HND.out);have HVS:=hid (show Vs w9 (.slice ad ln c) R from⟨hok,ad,g2,c,by rw [hln],hat⟩)
   have D9:=hid (D7.out.kept k9);have A9:=hid (A7.out.andKept k9)
   have HNF:=hid (show ∀ g,(Value.slice ad ln c).ownBlock = some g→¬ F' g from fun g hg hf=>by
    have h1:=D7.out.fsize g hf;have h2:=hlow g (by rw [← hln]; exact hg)
    omega)
   have hl9:(ln:Int)≤100001:=by
    have h1:=hperm.length_eq;have h2:=List.length_filter_le (fun u:Vx=>decide (u.dep < fl1)) (v :: L)
    have h3:=HLM.out
    omega
   clear hln hat hperm hlow k9 hok c8;go_wp2
   go_loopw [33] (fun s33 wr=>∃ k:Nat,s33 = .int .i64 (k:Int)∧k≤ln∧Hid (Dst wr sb F' keep (n + 1) (leftL (v :: L) R k) (some (Dg.newTop h v)) (v.par :: P))∧Hid (Vs wr (.slice ad ln c) R)∧Hid (Dfr F w wr)) (fun s33 _=>ln - (RowKit.intOf s33).toNat)
   case atStart=>exact⟨0,rfl,Nat.zero_le _,hid (by rw [left_zero]; exact D9.out),HVS,A9⟩
   case round=>
    obtain⟨k,rfl,hkl,hd,hvs,hf⟩:=hrel
    by_cases hk:k < ln
    ·have hki:(k:Int) < (ln:Int):=by omega
     have hkR:k < R.length:=by rw [← HLR.out]; exact hk
     obtain⟨hok,ad',g',c',e,hat⟩:=hvs.out;obtain⟨a1,a2,a3⟩:=hat k hkR;injection e with e1 hle hce
     clear hle hce;rw [a1] at e1;have hxo:=hok _ (List.getElem_mem hkR);have hxm:=HEN.out.2.2.1 _ (List.getElem_mem hkR)
     have hxl:R[k]'hkR∈leftL (v :: L) R k:=by
      rw [mem_left15];refine⟨hxm.1,fun hid=>?_⟩
      obtain⟨y,hy,e⟩:=List.mem_map.1 hid;obtain⟨i,hi,rfl⟩:=List.mem_iff_getElem.1 hy;rw [List.length_take] at hi;rw [List.getElem_take] at e;have hnd:=HEN.out.2.2.2;have h9:=List.pairwise_iff_getElem.1 hnd i k (by simp [Dg.ids]; omega) (by simpa [Dg.ids] using hkR) (by omega)
      simp only [Dg.ids,List.getElem_map] at h9;exact h9 e
     have hld:=run_loadVar_mid (P:=Try.prog) wr g' (k * 66) 36 (R[k]'hkR).cells _ a3 Try.underlying36 rfl (by rw [vxInfo15,Vx.cells_length hxo])
     have HDR:=hid (fun(x:World) (kk:Kept wr.heap.size wr.heap.size wr x)=>drop15 x (hd.out.kept kk) (R[k]'hkR) hxl rfl hxm.2)
     have HLA:=hid (fun(x:World) (g:Nat) (hg:Vb x g (R[k]'hkR))=>hg.all hxo)
     have HVW2:=hid (show ∀ (x:World) (g:Nat),x.heap[g]? = some (.cells (R[k]'hkR).cells.toArray 36 (0,0))→Vb x g (R[k]'hkR) from fun x g h=>h)
     have HSTEP:=hid (left_step (M:=v :: L) hkR);have HCI:=hid (vxSize15 hxo);have HCS:=hid (show(R[k]'hkR).cells.toArray.size = 66 by rw [List.size_toArray,Vx.cells_length hxo])
     have HCA:=hid (Vx.cells_all (R[k]'hkR));unfold Vx.val at HLA HDR;obtain⟨rk,hrk⟩:∃ x,x = R[k]'hkR:=⟨_,rfl⟩;rw [← hrk] at HSTEP HDR HLA HVW2 HCI HCS HCA hld;generalize rk.cells.toArray = CC at HLA HDR HVW2 HCI HCS HCA hld;obtain⟨ZC,hZC⟩:∃ x,x = Vx.zero.cells.toArray:=⟨_,rfl⟩;have HZE:=hid hZC.symm;have HZS:=hid (show ZC.size = 66 by rw [hZC,List.size_toArray,Vx.cells_length Vx.zero_ok])
     have HE1:=hid e1;rw [e1];clear hat a1 a2 a3 e1 hok hxo hxm hxl hrk hZC
     go_upto_region 12 with fail
     refine wp_region_lit ?_;refine @wQ _ _ _ _ _ _ _ ?_ ?_;kernel_rfl;intro K hK;go_simp;refine hK _ _ ?_;clear hK K;refine @wpList_load_known _ _ _ _ _ _ _ ?_ 36 (.tmp 35) rfl (g') (k * 66) rfl (.agg CC) (hld) ?_;kernel_rfl
     simp only [Act.put,sA,sB,sC];refine @wpL_alloc _ _ _ _ _ _ _ _ ?_ 36 rfl _ (alloc_vx15 _) ?_;kernel_rfl
     simp only [Act.put,sA,sB,sC];rw [HZE.out];refine wpList_store_row rfl 36 _ _ rfl (wr.heap.size) CC rfl rfl 36 ZC (heap_new _ _) (HCI.out) (by rw [HCS.out,HZS.out]) (HCA.out) ?_
     simp only [Act.put];rw [World.setRow_alloc_new];have k12:Kept wr.heap.size wr.heap.size wr (wr.alloc (.cells CC 36)):=(Kept.refl _ _ _).alloc (Nat.le_refl _) _
     have b12:=HVW2.out _ _ (heap_new wr (.cells CC 36))
     obtain⟨g11,hg11⟩:∃ x,x = wr.heap.size:=⟨_,rfl⟩;rw [← hg11] at b12;generalize wr.alloc (.cells CC 36) = w12 at k12 b12 ⊢
     rw [← hg11];have K12:=hid k12;have B12:=hid b12;clear k12 b12 hg11 hld
     go_upto_region 13 with fail
     refine wp_region_lit ?_;refine @wQ _ _ _ _ _ _ _ ?_ ?_;kernel_rfl;intro K hK;go_simp;refine hK _ _ ?_;clear hK K;refine @wpList_load_known _ _ _ _ _ _ _ ?_ 36 (.tmp 11) rfl (g11) (0) rfl (.agg CC) (HLA.out _ _ B12.out) ?_;kernel_rfl
     simp only [Act.put,sA,sB,sC];refine @wQ _ _ _ _ _ _ _ ?_ ?_;kernel_rfl;intro K hK;go_simp;go_at_call 17
     refine(HDR.out _ K12.out).mono ?_;rintro e w13 ⟨rfl,hdf,hdst⟩;refine hK _ _ ?_;clear hK K;have HV3:=hid ((hvs.out.kept K12.out).far hdf HNF.out);have HF3:=hid ((hf.out.andKept K12.out).trans hdf F5.out);have HD3:=hid (show Dst w13 sb F' keep (n + 1) (leftL (v :: L) R (k + 1)) (some (Dg.newTop h v)) (v.par :: P) by rw [← HSTEP.out]; exact hdst)
     clear hdf hdst;go_wp2;rw [← HE1.out]
     go_roundw
     case rel=>exact⟨k + 1,rfl,hk,HD3,HV3,HF3⟩
     case measure=>simp [RowKit.intOf]; omega
    ·have hki:¬ (k:Int) < (ln:Int):=by omega
     have HKN:=hid (show k = ln by omega)
     go_wp2;refine bodyPost_ret (results_tmp2 rfl _ _ _) rfl ?_;refine HFG.out F' _ _ _ _ F5.out hf.out (by rw [HLR.out]; exact HEN.out.2.1) HND.out (hd.out.ext (fun u=>?_) (HSI.out HND.out))
     rw [HKN.out,HLR.out];exact HEN.out.1 u
 ·have herb:(er == 0) = false:=by simpa using her
  have HER:=hid her;go_wp2;refine bodyPost_ret (results_tmp2 rfl _ _ _) rfl ?_;exact HFB.out F _ _ (fun k hk=>.inl hk) (Dfr.of_kept K3.out) HER.out (fun h=>HER.out (HE.out h)) (HDS.out.kept K3.out)
end Go.Proofs.Ytfbfdaeagpdaiaa
