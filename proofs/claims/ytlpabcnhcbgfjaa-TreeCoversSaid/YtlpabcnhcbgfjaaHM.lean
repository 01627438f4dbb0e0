/-
 TreePath; TreeRefPath; TreePathWay; TreePathJoin: several texts in one.
-/
import Derived.Test.YtlpabcnhcbgfjaaHL
import Derived.Test.YtlpabcnhcbgfjaaTreeCopied
import Derived.Test.YtlpabcnhcbgfjaaHA
import Derived.Test.YtlpabcnhcbgfjaaHC
import Derived.Test.YtlpabcnhcbgfjaaTreeBlank
import Derived.Test.YtlpabcnhcbgfjaaHF
import Derived.Test.YtlpabcnhcbgfjaaTreeJoin
set_option maxRecDepth 100000
set_option maxHeartbeats 6400000
namespace Go.Proofs.Ytlpabcnhcbgfjaa
open Go.RowKit Go.Lib
open List renaming setIfInBounds_toArray → sA, set_cons_zero → sB, set_cons_succ → sC
open BigFrame renaming wpList_want → wQ
theorem refpath_ok (lv pv:Value)(L:List Lf)(P:List Pr)(k:Nat)(pub:List UInt8)(hpub:pub.length = 32)(kv:Value)(ks:List (List UInt8))(ws:List Int)(H:Nat→List UInt8)(m:Nat)(w:World)(hL:Lvs w lv L)(hP:Pts w pv P)(hn:L.length≤1000)(hp:P.length≤1000)(hpl:∀ p∈P,p.loose.length≤1000)(hK:Hs w kv ks)(hk:k < L.length)(hno:Tt.none L (k:Int) = false)(hws:Bo.Direct (L.length:Int) (k:Int) = ws)(hm:ws.length = m)(hkm:ks.length = m)(hm9:m≤66)(hpos:∀ i (h:i < ws.length),0≤ws[i]∧ws[i].toNat / 2 < P.length)
  (hSD:∀ (wv:Value) (d j:Nat),j + d = m→∀ u,Lvs u lv L→Pts u pv P→Nums u wv ws→Hs u kv ks→Calls Try.prog 46 #[.agg #[lv,pv],.int .i64 (k:Int),wv,kv,.int .i64 ((j:Int) - 1)] u fun e u'=>e = .returned (.agg (bcells (Tt.said ks H d j)).toArray)∧Kept u.heap.size u.heap.size u u') :
  Calls Try.prog 16 #[.agg #[lv,pv],.int .i64 (k:Int),.agg (bcells pub).toArray,kv] w fun e w'=>∃ lv' pv',e = .returned (.tuple #[.agg #[lv',pv'],.int .i64 0])∧Kept w.heap.size w.heap.size w w'∧∃ SL,Mine (fun k=>k < w.heap.size) w' lv' pv' (L.set k (.mk L[k].name pub L[k].ver (Tt.said ks H m 0))) (Tt.upto ws ks H P m) SL:=by
 have HLK:=hid (fun(u:World) (kk:Kept w.heap.size w.heap.size w u)=>refnone_calls lv pv L (k:Int) u (hL.kept kk) hn (by obtain⟨pad,pc,rfl⟩:=hP.shape; exact⟨_,_,_,rfl⟩))
 rw [hno] at HLK;clear hno;have HRD:=hid (fun(u:World)=>rdirect_calls (L.length:Int) (k:Int) u)
 rw [hws] at HRD;have HCP:=hid (fun(u:World) (kk:Kept w.heap.size w.heap.size w u)=>refcopy_calls lv pv L P u (hL.kept kk) (hP.kept kk) hn hp hpl)
 have HSD:=hid (fun(wv:Value) (d j:Nat) (e:j + d = m) (u:World) (kk:Kept w.heap.size w.heap.size w u) (hw:Nums u wv ws)=>hSD wv d j e u (hL.kept kk) (hP.kept kk) hw (hK.kept kk))
 have HKH:=hid hK;obtain⟨_,kad,kg,ko,kc,rfl,hkc⟩:=hK;have HKC:=hid hkc;have HP9:=hid hp;clear hkc;rw [hkm] at HSD HKH;rw [hkm];have HKM:=hid hkm;have HWM:=hid hm;have HM9:=hid hm9;have HPO:=hid hpos;have HKL:=hid hk
 have hlok:L[k].Ok:=by
  obtain⟨_,_,_,_,_,h1,_⟩:=hL;exact(h1 k hk).2.2.1
 obtain⟨l,hl⟩:∃ l,l = L[k]:=⟨_,rfl⟩;rw [← hl] at hlok;have HL:=hid (show ∀ h:k < L.length,l = L[k] from fun _=>hl)
 have HOK:=hid hlok;obtain⟨lad,lc,rfl⟩:=hL.shape;obtain⟨pad,pc,rfl⟩:=hP.shape;obtain⟨ln,hln⟩:∃ ln,ln = L.length:=⟨_,rfl⟩;obtain⟨pn,hpn⟩:∃ pn,pn = P.length:=⟨_,rfl⟩;have hkl:(k:Int) < (ln:Int):=by omega
 have hk0:¬ (k:Int) < 0:=by omega
 rw [← hln,← hpn] at HLK;rw [← hln,← hpn] at HCP;rw [← hln,← hpn] at HSD;rw [← hln] at HRD;rw [← hln,← hpn];clear hws hm hkm hm9 hpos hSD hlok hl;have hln9:(ln:Int)≤1000:=by omega
 have HLN:=hid hln;have HPN:=hid hpn;have HPB:=hid hpub;obtain⟨D,hD⟩:∃ D,D = (bcells pub).toArray:=⟨_,rfl⟩;have HDE:=hid hD;have hsz:D.size = 32:=by rw [hD,List.size_toArray,bcells_length,hpub]
 have HSZ:=hid hsz;have hinf:(Try.prog.info? 34).map (·.size) = some D.size:=by rw [hD]; exact hashInfoT (by rw [bcells_length,hpub])
 have HINF:=hid hinf;have HALL:=hid (show D.all (·.oneCell') = true by rw [hD]; exact bytesAll pub)
 rw [← hD];clear hpub hD hsz hinf;clear hL hP hn hp hpl hln hpn;have k1:=kA w (.cells #[.slice lad ln lc,.slice pad pn pc] 27)
 have t1:=heap_new w (.cells #[.slice lad ln lc,.slice pad pn pc] 27)
 have s1:(w.alloc (.cells #[.slice lad ln lc,.slice pad pn pc] 27)).heap.size = w.heap.size + 1:=by simp
 go_enter Try.func16,Try.ntmps16
 go_upto_region 1 with fail
 generalize w.alloc (.cells #[.slice lad ln lc,.slice pad pn pc] 27) = wa at k1 t1 s1 ⊢
 have k2:=kA wa (.cells D 34)
 have e2:=heap_new wa (.cells D 34)
 have s2:(wa.alloc (.cells D 34)).heap.size = wa.heap.size + 1:=by simp
 have t2:=rk t1 k2;generalize wa.alloc (.cells D 34) = wb at k2 e2 s2 t2 ⊢
 have k3:=kA wb (.cells #[.slice none 0 0,.slice none 0 0] 27)
 have r3:=heap_new wb (.cells #[.slice none 0 0,.slice none 0 0] 27)
 have s3:(wb.alloc (.cells #[.slice none 0 0,.slice none 0 0] 27)).heap.size = wb.heap.size + 1:=by simp
 have t3:=rk t2 k3;have e3:=rk e2 k3;generalize wb.alloc (.cells #[.slice none 0 0,.slice none 0 0] 27) = w1 at k3 r3 s3 t3 e3 ⊢
 have K1:=hid ((k1.next1 k2).next1 k3);rw [s2,s1] at r3 s3;rw [s1] at e3
 (try rw [s2])
 (try rw [s1])
 obtain⟨tb,htb⟩:∃ tb,tb = w.heap.size:=⟨_,rfl⟩;obtain⟨lb,hlb⟩:∃ lb,lb = w.heap.size + 1:=⟨_,rfl⟩;obtain⟨rb,hrb⟩:∃ rb,rb = w.heap.size + 1 + 1:=⟨_,rfl⟩;rw [← hrb] at r3
 (try rw [← hrb])
 rw [← hlb] at e3
 (try rw [← hlb])
 rw [← htb] at t3
 (try rw [← htb])
 have HTL:=hid (show tb≠lb by omega)
 have HTR:=hid (show tb≠rb by omega)
 have HTB:=hid (show ¬ tb < w.heap.size by omega)
 have HRB:=hid (show ¬ rb < w.heap.size by omega)
 have HWS:=hid (show w.heap.size≤w1.heap.size by omega)
 have T1:=hid t3;have R1:=hid r3;have E1:=hid e3;clear k1 t1 s1 k2 e2 s2 t2 k3 r3 s3 t3 e3 htb hlb hrb;refine wp_region_lit ?_;refine @wpList_load_known _ _ _ _ _ _ _ ?_ 27 (.tmp 4) rfl (tb) (0) rfl (.agg #[.slice lad ln lc,.slice pad pn pc]) (run_loadVar_row w1 tb 27 27 _ (0,0) _ T1.out Try.underlying27 rfl treeInfo) ?_;kernel_rfl
 simp only [Act.put,sA,sB,sC];refine @wQ _ _ _ _ _ _ _ ?_ ?_;kernel_rfl;intro K hK;go_simp;refine hK _ _ ?_;clear hK K;refine @wQ _ _ _ _ _ _ _ ?_ ?_;kernel_rfl;intro K hK;go_simp;go_at_call 43
 refine(HLK.out _ K1.out).mono ?_;rintro e w2 ⟨rfl,k2⟩;have K2:=hid (K1.out.next1 k2);have T2:=hid (rk T1.out k2);have R2:=hid (rk R1.out k2);have E2:=hid (rk E1.out k2);clear k2;refine hK _ _ ?_;clear hK K;have t0:=load_slice (d:=.int .u8) (two_cell0 T2.out) (.inl rfl) rfl
 go_upto_region 3 with fail
 refine wp_region_lit ?_;refine @wQ _ _ _ _ _ _ _ ?_ ?_;kernel_rfl;intro K hK;go_simp;refine hK _ _ ?_;clear hK K;refine @wpList_load_known _ _ _ _ _ _ _ ?_ 24 (.tmp 17) rfl (tb) (0) rfl (.slice lad ln lc) (t0) ?_;kernel_rfl
 simp only [Act.put,sA,sB,sC];iterate 2 (refine @wQ _ _ _ _ _ _ _ ?_ ?_;kernel_rfl;intro K hK;go_simp;refine hK _ _ ?_;clear hK K)
 refine @wQ _ _ _ _ _ _ _ ?_ ?_;kernel_rfl;intro K hK;go_simp;go_at_call 45
 refine(HRD.out _).mono ?_;rintro e w3 ⟨wv,rfl,i3,k3⟩;have K3:=hid (K2.out.next1 k3);have T3:=hid (rk T2.out k3);have R3:=hid (rk R2.out k3);have E3:=hid (rk E2.out k3);clear k3;clear t0;have hn3:=ints_nums i3;obtain⟨wad,wc,wg,wo,rfl,hwc⟩:=hn3;have WN3:=hid (ints_nums i3);have HWC:=hid hwc;clear hwc;rw [HWM.out] at WN3 ⊢;clear i3;refine hK _ _ ?_;clear hK K;refine @wQ _ _ _ _ _ _ _ ?_ ?_;kernel_rfl;intro K hK;go_simp;refine hK _ _ ?_;clear hK K;have hne:((m:Int) == (m:Int)) = true:=beq_self_eq_true _
 go_upto_region 6 with fail
 clear hne;refine wp_region_lit ?_;refine @wpList_load_known _ _ _ _ _ _ _ ?_ 27 (.tmp 4) rfl (tb) (0) rfl (.agg #[.slice lad ln lc,.slice pad pn pc]) (run_loadVar_row w3 tb 27 27 _ (0,0) _ T3.out Try.underlying27 rfl treeInfo) ?_;kernel_rfl
 simp only [Act.put,sA,sB,sC];refine @wQ _ _ _ _ _ _ _ ?_ ?_;kernel_rfl;intro K hK;go_simp;go_at_call 41
 refine(HCP.out _ K3.out).mono ?_;rintro e w6 ⟨lv6,pv6,rfl,k6,SL6,m6⟩;obtain⟨lad6,lc6,rfl⟩:=m6.lvs.shape;obtain⟨pad6,pc6,rfl⟩:=m6.pts.shape;rw [← HLN.out,← HPN.out] at m6 ⊢;have HK56:=hid k6.size;have WN6:=hid (WN3.out.kept k6);have KW6:=hid k6;have K6:=hid (K3.out.next1 k6);have T6:=hid (rk T3.out k6);have R6:=hid (rk R3.out k6);have E6:=hid (rk E3.out k6);clear k6;refine hK _ _ ?_;clear hK K;refine @wpL_alloc _ _ _ _ _ _ _ _ ?_ 27 rfl _ (alloc_tree _) ?_;kernel_rfl
 simp only [Act.put,sA,sB,sC];refine wpList_store_row rfl 27 _ _ rfl (w6.heap.size) #[.slice lad6 ln lc6,.slice pad6 pn pc6] rfl rfl 27 #[.slice none 0 0,.slice none 0 0] (heap_new _ _) (treeInfo) (rfl) (tree_all _ _ _ _ _ _) ?_
 simp only [Act.put];rw [World.setRow_alloc_new];have m7:=m6.box (.cells #[.slice lad6 ln lc6,.slice pad6 pn pc6] 27)
 have hb7:=heap_new w6 (.cells #[.slice lad6 ln lc6,.slice pad6 pn pc6] 27)
 have k7:=kA w6 (.cells #[.slice lad6 ln lc6,.slice pad6 pn pc6] 27)
 have WN7:=hid (WN6.out.kept k7);have KW7:=hid (KW6.out.next1 k7);obtain⟨mb,hmb⟩:∃ mb,mb = w6.heap.size:=⟨_,rfl⟩;obtain⟨sz,hsz⟩:∃ sz,sz = w3.heap.size:=⟨_,rfl⟩;have hs5:=K3.out.size;have hs6:=K6.out.size;have hs56:sz≤w6.heap.size:=by rw [hsz]; exact HK56.out
 have HSZW:=hid (show w.heap.size≤sz by omega)
 have HMB:=hid (show ¬ mb < w.heap.size by omega)
 have HBR:=hid (show rb < sz by rw [hsz]; exact lt_of_block R3.out)
 have HBT:=hid (show tb < sz by rw [hsz]; exact lt_of_block T3.out)
 have HBE:=hid (show lb < sz by rw [hsz]; exact lt_of_block E3.out)
 have HSM:=hid (show sz≤mb by omega)
 have HSW:=hid (show w3.heap.size≤sz by omega)
 generalize w6.alloc (.cells #[.slice lad6 ln lc6,.slice pad6 pn pc6] 27) = w7 at m7 hb7 k7 WN7 KW7 ⊢
 rw [← hmb] at m7 hb7
 (try rw [← hmb])
 rw [← hsz] at m7;have K7:=hid (K6.out.next1 k7);have T7:=hid (rk T6.out k7);have R7:=hid (rk R6.out k7);have E7:=hid (rk E6.out k7);clear k7;have F7:=hid (K7.out.fr (B:=fun k=>k < w.heap.size))
 obtain⟨g8,cap8,he8,hgb8,hth8,hm8,hg8⟩:=m7.leafPart k HKL.out (.mk l.name pub l.ver l.abv) ⟨HPB.out,HOK.out.2.1,HOK.out.2.2⟩ 1 (bcells pub) (by rw [bcells_length,HPB.out]; decide) (bcells_one pub) (by rw [← HL.out HKL.out]; exact Lf.put_pub HOK.out pub HPB.out)
 rw [← HLN.out] at he8;injection he8 with hea hez hec
 subst hea;clear hez hec;rw [bcells_length,HPB.out] at hth8;have HTH8:=hid hth8;have HGB:=hid hgb8;have hne:∀ b,b < sz→some b≠some g8:=fun b hb e=>hgb8 (.inl (by rw [← Option.some.inj e]; exact hb))
 have hb8:=(hg8.block mb (lt_of_block hb7) (fun e=>hgb8 (.inr (Option.some.inj e).symm))).trans hb7
 have hr8:=(hg8.block rb (lt_of_block R7.out) (hne rb HBR.out)).trans R7.out;have ht8:=(hg8.block tb (lt_of_block T7.out) (hne tb HBT.out)).trans T7.out;have hf8:=F7.out.trans (grown_fr (B:=fun k=>k < w.heap.size) hg8 (fun k e b=>by cases e; exact hgb8 (.inl (Nat.lt_of_lt_of_le b HSZW.out))))
 have hw8:=KW7.out.grown hg8 KW7.out.size (fun q e=>by cases e; exact Nat.le_of_not_lt (fun h=>hgb8 (.inl (by rw [hsz]; exact h))))
 have hdl:bcells pub = D.toList:=by rw [HDE.out]
 rw [hdl] at hm8 hb8 hr8 ht8 hf8 hw8;have KW8:=hid hw8;have B7:=hid hb7;have M8:=hid hm8;have B8:=hid hb8;have R8:=hid hr8;have T8:=hid ht8;have F8:=hid hf8;have HLH:=hid (run_loadVar_row w7 lb 34 34 _ (0,0) _ E7.out Try.underlying34 rfl HINF.out)
 clear m6 m7 hb7 hmb hsz hs5 hs6 hs56 K6 hgb8 hth8 hm8 hg8 hb8 hr8 ht8 hf8 hw8 hne hdl WN6 WN7 KW6 KW7;have t0:=load_slice (d:=.int .u8) (two_cell0 B7.out) (.inl rfl) rfl
 go_upto_region 7 with fail
 refine wp_region_lit ?_;refine @wQ _ _ _ _ _ _ _ ?_ ?_;kernel_rfl;intro K hK;go_simp;refine hK _ _ ?_;clear hK K;refine @wpList_load_known _ _ _ _ _ _ _ ?_ 24 (.tmp 30) rfl (mb) (0) rfl (.slice (some ⟨g8,0,none⟩) ln lc6) (t0) ?_;kernel_rfl
 simp only [Act.put,sA,sB,sC];refine @wQ _ _ _ _ _ _ _ ?_ ?_;kernel_rfl;intro K hK;go_simp;refine hK _ _ ?_;clear hK K;refine @wpList_load_known _ _ _ _ _ _ _ ?_ 34 (.tmp 6) rfl (lb) (0) rfl (.agg D) (HLH.out) ?_;kernel_rfl
 simp only [Act.put,sA,sB,sC];iterate 2 (refine @wQ _ _ _ _ _ _ _ ?_ ?_;kernel_rfl;intro K hK;go_simp;refine hK _ _ ?_;clear hK K)
 refine @wpL_store_mid _ _ _ _ _ _ _ ?_ 34 _ _ rfl (g8) (k * 97 + 1) D rfl rfl (by rw [HSZ.out]; exact HTH8.out) HINF.out HALL.out ?_;kernel_rfl
 simp only [Act.put];generalize w7.setCells g8 (k * 97 + 1) D.toList = w8 at B8 M8 R8 T8 F8 KW8 ⊢;clear t0 HTH8 HLH;have K8:=hid (F8.out.kept (fun k hk=>hk))
 have HLA:=hid (fun(x:World) (k:Kept w8.heap.size w8.heap.size w8 x)=>load_slice (d:=.int .u8) (two_cell0 (row_kept B8.out k)) (.inl rfl) rfl)
 have HLB:=hid (fun(x:World) (k:Kept w8.heap.size w8.heap.size w8 x)=>run_loadVar_row x tb 27 27 _ (0,0) _ (row_kept T8.out k) Try.underlying27 rfl treeInfo)
 have HS0:=hid (fun(u:World) (kk:Kept w8.heap.size w8.heap.size w8 u)=>HSD.out (.slice wad m wc) m 0 (Nat.zero_add m) u (K8.out.onto kk) (WN3.out.kept (KW8.out.onto kk)))
 rw [show(((0:Nat):Int) - 1) = -1 from rfl] at HS0;obtain⟨sc,hsc⟩:∃ sc,sc = (bcells (Tt.said ks H m 0)).toArray:=⟨_,rfl⟩;rw [← hsc] at HS0;have HSC:=hid hsc;have HSZ2:=hid (show sc.size = 32 by rw [hsc,List.size_toArray,bcells_length,Tt.said_len])
 have HIS:=hid (show(Try.prog.info? 34).map (·.size) = some sc.size by rw [hsc]; exact hashInfoT (by rw [bcells_length,Tt.said_len]))
 have HAS:=hid (show sc.all (·.oneCell') = true by rw [hsc]; exact bytesAll _)
 clear hsc
 go_upto_region 8 with fail
 obtain⟨wd,hwd⟩:∃ wd,wd = w8.drew:=⟨_,rfl⟩;have KD:Kept w8.heap.size w8.heap.size w8 wd:=by rw [hwd]; exact(Kept.refl _ _ _).drew
 refine wp_region_noPanic ?_;refine wp_region_heldTo 10 (S:=fun w'=>Kept w8.heap.size w8.heap.size w8 w') (by kernel_rfl) (by rw [← hwd]; exact KD) (fun hH=>?_)
 rw [← hwd] at hH ⊢;clear hwd;refine heldTo_take_ex (i:=0) 36 rfl rfl (by kernel_rfl) (by kernel_rfl) (by kernel_rfl) (by kernel_rfl) (fun _ _ _ _ h=>h) (by kernel_rfl) hH ?_
 apply Exists.intro;apply And.intro
 ·intro w9 h9
  go_simp
  first | done | rfl
 simp only [sA,sB,sC];refine heldTo_take (i:=1) 37 (.slice (some ⟨g8,0,none⟩) ln lc6) rfl rfl (by kernel_rfl) (by kernel_rfl) (by kernel_rfl) (by kernel_rfl) (fun _ _ _ h=>h) (yieldsIf_load_known (by kernel_rfl) 24 _ rfl (mb) (0) rfl (.slice (some ⟨g8,0,none⟩) ln lc6) (HLA.out)) hH ?_
 simp only [sA,sB,sC];refine heldTo_take_ex (i:=2) 38 rfl rfl (by kernel_rfl) (by kernel_rfl) (by kernel_rfl) (by kernel_rfl) (fun _ _ _ _ h=>h) (by kernel_rfl) hH ?_
 apply Exists.intro;apply And.intro
 ·intro w9 h9
  go_simp
  first | done | rfl
 simp only [sA,sB,sC];refine heldTo_take (i:=3) 39 (.agg #[.slice lad ln lc,.slice pad pn pc]) rfl rfl (by kernel_rfl) (by kernel_rfl) (by kernel_rfl) (by kernel_rfl) (fun _ _ _ h=>h) (yieldsIf_load_known (by kernel_rfl) 27 _ rfl (tb) (0) rfl (.agg #[.slice lad ln lc,.slice pad pn pc]) (HLB.out)) hH ?_
 simp only [sA,sB,sC];refine heldTo_take_ex (i:=4) 40 rfl rfl (by kernel_rfl) (by kernel_rfl) (by kernel_rfl) (by kernel_rfl) (fun _ _ _ _ h=>h) (by kernel_rfl) hH ?_
 apply Exists.intro;apply And.intro
 ·intro w9 h9
  go_simp
  first | done | rfl
 simp only [sA,sB,sC];refine heldTo_take_ex (i:=5) 41 rfl rfl (by kernel_rfl) (by kernel_rfl) (by kernel_rfl) (by kernel_rfl) (fun _ _ _ _ h=>h) (by kernel_rfl) hH ?_
 apply Exists.intro;apply And.intro
 ·intro w9 h9
  go_simp
  first | done | rfl
 simp only [sA,sB,sC];refine heldTo_take_ex (i:=6) 42 rfl rfl (by kernel_rfl) (by kernel_rfl) (by kernel_rfl) (by kernel_rfl) (fun _ _ _ _ h=>h) (by kernel_rfl) hH ?_
 apply Exists.intro;apply And.intro
 ·intro w9 h9
  go_simp
  first | done | rfl
 simp only [sA,sB,sC];refine heldTo_one (i:=7) (by kernel_rfl) rfl (fun K hK=>?_)
 rw [if_pos (by rfl)]
 go_simp
 go_wp2_with (go_at_call 46; refine(HS0.out _ KD).mono ?_; rintro e v9 ⟨rfl,q9⟩)
 have KS:Kept w8.heap.size w8.heap.size w8 v9:=KD.onto q9;have Q9:=KS;refine hK.out _ _ KS (fun hH=>?_)
 clear hK K KS;refine heldTo_one (i:=8) (by kernel_rfl) rfl (fun K hK=>?_)
 rw [if_pos (by rfl)]
 go_simp;have KS:=Q9;refine hK.out _ _ KS (fun hH=>?_)
 clear hK K KS;refine heldTo_take_ex (i:=9) 45 rfl rfl (by kernel_rfl) (by kernel_rfl) (by kernel_rfl) (by kernel_rfl) (fun _ _ _ _ h=>h) (by kernel_rfl) hH ?_
 apply Exists.intro;apply And.intro
 ·intro w9 h9
  go_simp
  first | done | rfl
 simp only [sA,sB,sC];refine heldTo_last (by kernel_rfl) rfl (fun K hK=>?_)
 rw [if_pos (by rfl)]
 have m9:=M8.out.kept Q9;obtain⟨g9,cap9,he9,hgb9,hth9,hm9,hg9⟩:=m9.leafPart k (by rw [List.length_set]; exact HKL.out) (.mk l.name pub l.ver (Tt.said ks H m 0)) ⟨HPB.out,HOK.out.2.1,Tt.said_len _ _ _ _⟩ 65 (bcells (Tt.said ks H m 0)) (by rw [bcells_length,Tt.said_len]; decide) (bcells_one _) (by rw [List.getElem_set_self]; exact Lf.put_abv (l:=.mk l.name pub l.ver l.abv) ⟨HPB.out,HOK.out.2.1,HOK.out.2.2⟩ _ (Tt.said_len _ _ _ _))
 rw [List.set_set] at hm9
 have hgg:g9 = g8:=by
  injection he9 with hea _ _
  injection hea with hea
  injection hea with hea _ _
  exact hea.symm
 rw [hgg] at hth9 hm9 hg9;clear he9 hgg;rw [bcells_length,Tt.said_len] at hth9;have hdl:bcells (Tt.said ks H m 0) = sc.toList:=by rw [HSC.out]
 have hne:∀ b,b < sz→some b≠some g8:=fun b hb e=>HGB.out (.inl (by rw [← Option.some.inj e]; exact hb))
 have hb9:=(hg9.block mb (lt_of_block (row_kept B8.out Q9)) (fun e=>HGB.out (.inr (Option.some.inj e).symm))).trans (row_kept B8.out Q9)
 have hr9:=(hg9.block rb (lt_of_block (row_kept R8.out Q9)) (hne rb HBR.out)).trans (row_kept R8.out Q9);have ht9:=(hg9.block tb (lt_of_block (row_kept T8.out Q9)) (hne tb HBT.out)).trans (row_kept T8.out Q9);have hf9:=(F8.out.trans (Kept.fr (B:=fun k=>k < w.heap.size) Q9)).trans (grown_fr (B:=fun k=>k < w.heap.size) hg9 (fun k e b=>by cases e; exact HGB.out (.inl (Nat.lt_of_lt_of_le b HSZW.out))))
 have hw9:=(KW8.out.onto Q9).grown hg9 (KW8.out.onto Q9).size (fun q e=>by cases e; exact Nat.le_of_not_lt (fun h=>HGB.out (.inl (Nat.lt_of_lt_of_le h HSW.out))))
 rw [hdl] at hm9 hb9 hr9 ht9 hf9 hw9;refine wp_store_mid_none11 34 _ _ rfl rfl g8 (k * 97 + 65) sc rfl rfl (by rw [HSZ2.out]; exact hth9) HIS.out HAS.out ?_
 refine hK.out _ _ ?_;clear hK K;have BA:=hid hb9;have MA:=hid hm9;have RA:=hid hr9;have TA:=hid ht9;have FA:=hid hf9;have KWA:=hid hw9;clear m9 hgb9 hth9 hm9 hg9 hb9 hr9 ht9 hf9 hw9 hne hdl;generalize v9.setCells g8 (k * 97 + 65) sc.toList = wA at BA MA RA TA FA KWA ⊢;refine heldTo_done (by kernel_rfl) ?_ _
 refine NoPanic.normal ?_;clear hH;clear HLA HLB HS0 KD Q9 q9 M8 B8 R8 T8 F8 KW8 HSZ2 HIS HAS K8;obtain⟨L1,hL1⟩:∃ L1,L1 = L.set k (.mk l.name pub l.ver (Tt.said ks H m 0)):=⟨_,rfl⟩;rw [← hL1] at MA;have HL1:=hid hL1;have HLN1:=hid (show L1.length = ln by rw [hL1,List.length_set,HLN.out])
 clear hL1;go_wp2
 go_loopw [12] (fun s12 wr=>∃ i:Nat,∃ SL:List Value,s12 = .int .i64 (i:Int)∧Hid (i≤m)∧Hid (Mine (fun k=>k < sz∨k = mb) wr (.slice (some ⟨g8,0,none⟩) ln lc6) (.slice pad6 pn pc6) L1 (Tt.upto ws ks H P i) SL)∧Hid (wr.heap[mb]? = some (.cells #[.slice (some ⟨g8,0,none⟩) ln lc6,.slice pad6 pn pc6] 27 (0,0)))∧Hid (wr.heap[rb]? = some (.cells #[.slice none 0 0,.slice none 0 0] 27 (0,0)))∧Hid (wr.heap[tb]? = some (.cells #[.slice lad ln lc,.slice pad pn pc] 27 (0,0)))∧Hid (Frm (fun k=>k < w.heap.size) w wr)∧Hid (Kept w3.heap.size w3.heap.size w3 wr)) (fun s12 _=>m - (RowKit.intOf s12).toNat)
 case atStart=>exact⟨0,SL6,rfl,hid (Nat.zero_le _),MA,BA,RA,TA,FA,KWA⟩
 case round=>
  clear MA BA RA TA FA KWA;obtain⟨i,SL,rfl,hi,HM,HB,HR,HT,HF,HKW⟩:=hrel
  by_cases hlt:i < m
  ·have hlti:(i:Int) < (m:Int):=by omega
   have hkj:i < ks.length:=by rw [HKM.out]; exact hlt
   have hwj:i < ws.length:=by rw [HWM.out]; exact hlt
   obtain⟨hkad,hkg,hkr⟩:=HKC.out i hkj;obtain⟨hwad,hwg,hwx⟩:=HWC.out i hwj;obtain⟨hy0,hyp⟩:=HPO.out i hwj;obtain⟨y,hy⟩:∃ y,y = ws[i]:=⟨_,rfl⟩;obtain⟨kx,hkx⟩:∃ x,x = ks[i]:=⟨_,rfl⟩;have hkl:kx.length = 32:=by rw [hkx]; exact HKH.out.1 _ (List.getElem_mem _)
   obtain⟨sx,hsx⟩:∃ x,x = Tt.said ks H (m - 1 - i) (i + 1):=⟨_,rfl⟩;have hsl:sx.length = 32:=by rw [hsx]; exact Tt.said_len _ _ _ _
   rw [← hy] at hwx hy0 hyp;rw [← hkx] at hkr;obtain⟨q,hq⟩:∃ q,q = y.toNat / 2:=⟨_,rfl⟩;rw [← hq] at hyp;have hp9:=HP9.out
   have HQ:=hid (show IntKind.i64.wrap (y.tdiv 2) = (q:Int) by
    rw [show y.tdiv 2 = (q:Int) by rw [Int.tdiv_eq_ediv_of_nonneg hy0]; omega]
    exact wrap_small _ (by omega) (by omega))
   have HQP:=hid hyp;have hql:(q:Int) < (pn:Int):=by rw [HPN.out]; omega
   have hq0:¬ (q:Int) < 0:=by omega
   have HPI:=hid (show Tt.pitem ws ks H i = (q,⟨true,kx,sx,[]⟩) by
    rw [Tt.pitem,List.getD_eq_getElem?_getD,List.getElem?_eq_getElem hwj,Option.getD_some,List.getD_eq_getElem?_getD,List.getElem?_eq_getElem hkj,Option.getD_some,← hy,← hkx,← hq,HWM.out,← hsx])
   obtain⟨kd,hkd⟩:∃ d,d = (bcells kx).toArray:=⟨_,rfl⟩;obtain⟨sd,hsd⟩:∃ d,d = (bcells sx).toArray:=⟨_,rfl⟩;obtain⟨pd,hpd⟩:∃ d,d = (Pr.cells ⟨true,kx,sx,[]⟩ (.slice none 0 0)).toArray:=⟨_,rfl⟩;have HBP:=hid (fun u=>build_parent8 u kx sx hkl hsl)
   rw [← hkd,← hsd,← hpd] at HBP;have K9:=hid (HF.out.kept (fun k hk=>hk))
   have HLY:=hid (fun(u:World) (kk:Kept wr.heap.size wr.heap.size wr u)=>load_int (((HKW.out.onto kk).cell (p:=⟨wg,wo + i,none⟩) hwg (Nat.ne_of_lt hwg)).trans hwx))
   have HLK2:=hid (fun(u:World) (kk:Kept wr.heap.size wr.heap.size wr u)=>run_loadVar_mid u kg (ko + i * 32) 34 (bcells kx) _ (rangeAt_kept (K9.out.onto kk) hkr hkg (Nat.ne_of_lt hkg)) Try.underlying34 rfl (by rw [bcells_length,hkl]; kernel_rfl))
   rw [← hkd] at HLK2;have HLP:=hid (fun(u:World) (kk:Kept wr.heap.size wr.heap.size wr u)=>load_slice (d:=.int .u8) (two_cell1 (row_kept HB.out kk)) (.inr rfl) rfl)
   have HLB:=hid (fun(u:World) (kk:Kept wr.heap.size wr.heap.size wr u)=>run_loadVar_row u tb 27 27 _ (0,0) _ (row_kept HT.out kk) Try.underlying27 rfl treeInfo)
   have HSX:=hid (fun(u:World) (kk:Kept wr.heap.size wr.heap.size wr u)=>HSD.out (.slice wad m wc) (m - 1 - i) (i + 1) (by omega) u (K9.out.onto kk) (WN3.out.kept (HKW.out.onto kk)))
   rw [show(((i + 1:Nat):Int) - 1) = (i:Int) by omega,← hsx,← hsd] at HSX
   have HPZ:=hid (show pd.size = 66 by rw [hpd]; exact Pr.size (p:=⟨true,kx,sx,[]⟩) ⟨hkl,hsl⟩ _)
   have HPA:=hid (show pd.all (·.oneCell') = true by rw [hpd]; exact Pr.all _ _ _ _)
   have HPD:=hid (show Pr.cells ⟨true,kx,sx,[]⟩ (.slice none 0 0) = pd.toList by rw [hpd])
   have HPK:=hid (show(⟨true,kx,sx,[]⟩:Pr).Ok from⟨hkl,hsl⟩);have HLT:=hid hlt;obtain⟨gp,cp,hpe⟩:=own_shape HM.out.po (by rw [zip_len HM.out,Tt.upto_length]; have:=HQP.out; omega)
   injection hpe with hpa hpb hpc
   clear hpb hpc;subst hkad;subst hwad;subst hpa;clear hlt hi hkj hwj hkg hkr hwg hwx hy0 hyp hy hkx hkl hsx hsl hq hp9 hkd hsd hpd
   go_upto_region 12 with fail
   obtain⟨wd,hwd⟩:∃ wd,wd = wr.drew:=⟨_,rfl⟩;have KD:Kept wr.heap.size wr.heap.size wr wd:=by rw [hwd]; exact(Kept.refl _ _ _).drew
   refine wp_region_noPanic ?_;refine wp_region_heldTo 19 (S:=fun w'=>Kept wr.heap.size wr.heap.size wr w') (by kernel_rfl) (by rw [← hwd]; exact KD) (fun hH=>?_)
   rw [← hwd] at hH ⊢;clear hwd;refine heldTo_take_ex (i:=0) 52 rfl rfl (by kernel_rfl) (by kernel_rfl) (by kernel_rfl) (by kernel_rfl) (fun _ _ _ _ h=>h) (by kernel_rfl) hH ?_
   apply Exists.intro;apply And.intro
   ·intro w9 h9
    go_simp
    first | done | rfl
   simp only [sA,sB,sC];refine heldTo_take (i:=1) 53 (.slice (some ⟨gp,0,none⟩) pn pc6) rfl rfl (by kernel_rfl) (by kernel_rfl) (by kernel_rfl) (by kernel_rfl) (fun _ _ _ h=>h) (yieldsIf_load_known (by kernel_rfl) 25 _ rfl (mb) (1) rfl (.slice (some ⟨gp,0,none⟩) pn pc6) (HLP.out)) hH ?_
   simp only [sA,sB,sC];refine heldTo_take_ex (i:=2) 54 rfl rfl (by kernel_rfl) (by kernel_rfl) (by kernel_rfl) (by kernel_rfl) (fun _ _ _ _ h=>h) (by kernel_rfl) hH ?_
   apply Exists.intro;apply And.intro
   ·intro w9 h9
    go_simp
    first | done | rfl
   simp only [sA,sB,sC];refine heldTo_take_ex (i:=3) 55 rfl rfl (by kernel_rfl) (by kernel_rfl) (by kernel_rfl) (by kernel_rfl) (fun _ _ _ _ h=>h) (by kernel_rfl) hH ?_
   apply Exists.intro;apply And.intro
   ·intro w9 h9
    go_simp
    first | done | rfl
   simp only [sA,sB,sC];refine heldTo_take_ex (i:=4) 56 rfl rfl (by kernel_rfl) (by kernel_rfl) (by kernel_rfl) (by kernel_rfl) (fun _ _ _ _ h=>h) (by kernel_rfl) hH ?_
   apply Exists.intro;apply And.intro
   ·intro w9 h9
    go_simp
    first | done | rfl
   simp only [sA,sB,sC];refine heldTo_take (i:=5) 57 (.int .i64 y) rfl rfl (by kernel_rfl) (by kernel_rfl) (by kernel_rfl) (by kernel_rfl) (fun _ _ _ h=>h) (yieldsIf_load_known (by kernel_rfl) 3 _ rfl (wg) (wo + i) rfl (.int .i64 y) (HLY.out)) hH ?_
   simp only [sA,sB,sC];refine heldTo_take (i:=6) 58 (.int .i64 (q:Int)) rfl rfl (by kernel_rfl) (by kernel_rfl) (by kernel_rfl) (by kernel_rfl) (fun _ _ _ h=>h) (.inl ⟨by kernel_rfl,fun w9 _=>by go_simp; first | done | rfl | rw [HQ.out] | simp only [HQ.out]⟩) hH ?_
   simp only [sA,sB,sC];refine heldTo_take_ex (i:=7) 59 rfl rfl (by kernel_rfl) (by kernel_rfl) (by kernel_rfl) (by kernel_rfl) (fun _ _ _ _ h=>h) (by kernel_rfl) hH ?_
   apply Exists.intro;apply And.intro
   ·intro w9 h9
    go_simp
    first | done | rfl
   simp only [sA,sB,sC];refine heldTo_take_ex (i:=8) 60 rfl rfl (by kernel_rfl) (by kernel_rfl) (by kernel_rfl) (by kernel_rfl) (fun _ _ _ _ h=>h) (by kernel_rfl) hH ?_
   apply Exists.intro;apply And.intro
   ·intro w9 h9
    go_simp
    first | done | rfl
   simp only [sA,sB,sC];refine heldTo_take_ex (i:=9) 61 rfl rfl (by kernel_rfl) (by kernel_rfl) (by kernel_rfl) (by kernel_rfl) (fun _ _ _ _ h=>h) (by kernel_rfl) hH ?_
   apply Exists.intro;apply And.intro
   ·intro w9 h9
    go_simp
    first | done | rfl
   simp only [sA,sB,sC];refine heldTo_take (i:=10) 62 (.agg kd) rfl rfl (by kernel_rfl) (by kernel_rfl) (by kernel_rfl) (by kernel_rfl) (fun _ _ _ h=>h) (yieldsIf_load_known (by kernel_rfl) 34 _ rfl (kg) (ko + i * 32) rfl (.agg kd) (HLK2.out)) hH ?_
   simp only [sA,sB,sC];refine heldTo_take (i:=11) 63 (.agg #[.slice lad ln lc,.slice pad pn pc]) rfl rfl (by kernel_rfl) (by kernel_rfl) (by kernel_rfl) (by kernel_rfl) (fun _ _ _ h=>h) (yieldsIf_load_known (by kernel_rfl) 27 _ rfl (tb) (0) rfl (.agg #[.slice lad ln lc,.slice pad pn pc]) (HLB.out)) hH ?_
   simp only [sA,sB,sC];refine heldTo_take_ex (i:=12) 64 rfl rfl (by kernel_rfl) (by kernel_rfl) (by kernel_rfl) (by kernel_rfl) (fun _ _ _ _ h=>h) (by kernel_rfl) hH ?_
   apply Exists.intro;apply And.intro
   ·intro w9 h9
    go_simp
    first | done | rfl
   simp only [sA,sB,sC];refine heldTo_take_ex (i:=13) 65 rfl rfl (by kernel_rfl) (by kernel_rfl) (by kernel_rfl) (by kernel_rfl) (fun _ _ _ _ h=>h) (by kernel_rfl) hH ?_
   apply Exists.intro;apply And.intro
   ·intro w9 h9
    go_simp
    first | done | rfl
   simp only [sA,sB,sC];refine heldTo_take_ex (i:=14) 66 rfl rfl (by kernel_rfl) (by kernel_rfl) (by kernel_rfl) (by kernel_rfl) (fun _ _ _ _ h=>h) (by kernel_rfl) hH ?_
   apply Exists.intro;apply And.intro
   ·intro w9 h9
    go_simp
    first | done | rfl
   simp only [sA,sB,sC];refine heldTo_take_ex (i:=15) 67 rfl rfl (by kernel_rfl) (by kernel_rfl) (by kernel_rfl) (by kernel_rfl) (fun _ _ _ _ h=>h) (by kernel_rfl) hH ?_
   apply Exists.intro;apply And.intro
   ·intro w9 h9
    go_simp
    first | done | rfl
   simp only [sA,sB,sC];refine heldTo_one (i:=16) (by kernel_rfl) rfl (fun K hK=>?_)
   rw [if_pos (by rfl)]
   go_simp
   go_wp2_with (go_at_call 46; refine(HSX.out _ KD).mono ?_; rintro e v9 ⟨rfl,q9⟩)
   have KS:Kept wr.heap.size wr.heap.size wr v9:=KD.onto q9;have Q9:=KS;refine hK.out _ _ KS (fun hH=>?_)
   clear hK K KS;refine heldTo_one (i:=17) (by kernel_rfl) rfl (fun K hK=>?_)
   rw [if_pos (by rfl)]
   refine wp_buildN 62 _ rfl #[(0,.bool true),(1,.agg kd),(2,.agg sd)] (by simp only [List.map_toArray,List.map_cons,List.map_nil]; rfl) (HBP.out _) ?_
   have KS:=Q9;refine hK.out _ _ KS (fun hH=>?_)
   clear hK K KS;refine heldTo_take_ex (i:=18) 70 rfl rfl (by kernel_rfl) (by kernel_rfl) (by kernel_rfl) (by kernel_rfl) (fun _ _ _ _ h=>h) (by kernel_rfl) hH ?_
   apply Exists.intro;apply And.intro
   ·intro w9 h9
    go_simp
    first | done | rfl
   simp only [sA,sB,sC];refine heldTo_last (by kernel_rfl) rfl (fun K hK=>?_)
   rw [if_pos (by rfl)]
   have m9:=HM.out.kept Q9;obtain⟨g9,cap9,he9,hgb9,hth9,hm9,hg9⟩:=m9.parent q (by rw [Tt.upto_length]; exact HQP.out) ⟨true,kx,sx,[]⟩ HPK.out (.slice none 0 0) (World.ownsRow_nil _ _ _ _) (fun _ e=>nomatch e) (Dif.symm (.inl rfl)) (Dif.symm (.inl rfl)) (fun _ _ _ _=>.inl rfl)
   have hgg:g9 = gp:=by
    injection he9 with hea _ _
    injection hea with hea
    injection hea with hea _ _
    exact hea.symm
   rw [hgg] at hth9 hm9 hg9 hgb9;clear he9 hgg;have hun:Tt.upto ws ks H P (i + 1) = (Tt.upto ws ks H P i).set q ⟨true,kx,sx,[]⟩:=by rw [Tt.upto_next _ _ _ _ i (by rw [HWM.out]; exact HLT.out),HPI.out]
   rw [← hun] at hm9;clear hun;have hne:∀ b,b < sz→some b≠some gp:=fun b hb e=>hgb9 (.inl (by rw [← Option.some.inj e]; exact hb))
   have hb9:=(hg9.block mb (lt_of_block (row_kept HB.out Q9)) (fun e=>hgb9 (.inr (Option.some.inj e).symm))).trans (row_kept HB.out Q9)
   have hr9:=(hg9.block rb (lt_of_block (row_kept HR.out Q9)) (hne rb HBR.out)).trans (row_kept HR.out Q9);have ht9:=(hg9.block tb (lt_of_block (row_kept HT.out Q9)) (hne tb HBT.out)).trans (row_kept HT.out Q9);have hf9:=(HF.out.trans (Kept.fr (B:=fun k=>k < w.heap.size) Q9)).trans (grown_fr (B:=fun k=>k < w.heap.size) hg9 (fun k e b=>by cases e; exact hgb9 (.inl (Nat.lt_of_lt_of_le b HSZW.out))))
   have hw9:=(HKW.out.onto Q9).grown hg9 (HKW.out.onto Q9).size (fun q e=>by cases e; exact Nat.le_of_not_lt (fun h=>hgb9 (.inl (Nat.lt_of_lt_of_le h HSW.out))))
   rw [HPD.out] at hm9 hb9 hr9 ht9 hf9 hw9;refine wp_store_mid_none11 62 _ _ rfl rfl gp (q * 66) pd rfl rfl (by rw [HPZ.out]; exact hth9) (parentInfo HPZ.out) HPA.out ?_
   refine hK.out _ _ ?_;clear hK K;have BA:=hid hb9;have MA:=hid hm9;have RA:=hid hr9;have TA:=hid ht9;have FA:=hid hf9;have KWA:=hid hw9;clear m9 hgb9 hth9 hm9 hg9 hb9 hr9 ht9 hf9 hw9 hne;generalize v9.setCells gp (q * 66) pd.toList = wA at BA MA RA TA FA KWA ⊢;refine heldTo_done (by kernel_rfl) ?_ _
   refine NoPanic.normal ?_;clear hH;clear HLY HLK2 HLP HLB HSX KD Q9 q9 HM HB HR HT HF HKW;have hm9:=HM9.out;have hi9:i < m:=HLT.out;have hw64:IntKind.i64.wrap ((i:Int) + 1) = (i:Int) + 1:=wrap_small _ (by omega) (by omega)
   go_wp2
   go_roundw
   case rel=>exact⟨i + 1,_,(by have h1:=HM9.out; have h2:=HLT.out; go_num),hid HLT.out,MA,BA,RA,TA,FA,KWA⟩
   case measure=>have h1:=HM9.out; have h2:=HLT.out; simp [RowKit.intOf]; omega
  ·have hnl:¬ (i:Int) < (m:Int):=by omega
   have him:i = m:=by have:=hi.out; omega
   subst him;clear hlt hi
   go_upto_region 13 with fail
   refine wp_region_lit ?_;refine @wpList_load_known _ _ _ _ _ _ _ ?_ 27 (.tmp 11) rfl (mb) (0) rfl (.agg #[.slice (some ⟨g8,0,none⟩) ln lc6,.slice pad6 pn pc6]) (run_loadVar_row wr mb 27 27 _ (0,0) _ HB.out Try.underlying27 rfl treeInfo) ?_;kernel_rfl
   simp only [Act.put,sA,sB,sC];refine wpList_store_row rfl 27 _ _ rfl (rb) #[.slice (some ⟨g8,0,none⟩) ln lc6,.slice pad6 pn pc6] rfl rfl 27 #[.slice none 0 0,.slice none 0 0] HR.out treeInfo rfl (tree_all _ _ _ _ _ _) ?_
   simp only [Act.put];refine @wQ _ _ _ _ _ _ _ ?_ ?_;kernel_rfl;intro K hK;go_simp;refine hK _ _ ?_;clear hK K;have R12:=setRow_heap wr rb _ #[.slice (some ⟨g8,0,none⟩) ln lc6,.slice pad6 pn pc6] _ _ HR.out;have g12:=grown_setRow wr rb #[.slice (some ⟨g8,0,none⟩) ln lc6,.slice pad6 pn pc6];have M12:=hid (HM.out.aside (b:=rb) (.inl HBR.out) g12);have F12:=hid ((HF.out.trans (grown_fr (B:=fun k=>k < w.heap.size) g12 (fun k e b=>by cases e; exact HRB.out b))).kept (fun k hk=>hk))
   generalize wr.setRow rb #[.slice (some ⟨g8,0,none⟩) ln lc6,.slice pad6 pn pc6] = wz at R12 g12 M12 F12 ⊢;go_wp2;refine bodyPost_ret (results_row2 rfl _ _ rb 27 _ (0,0) _ rfl R12 Try.underlying27 rfl treeInfo) rfl ?_
   have hm:=M12.out;rw [HL1.out,HL.out HKL.out] at hm;exact⟨_,_,rfl,F12.out,SL,hm.mono (fun _ b=>.inl (Nat.lt_of_lt_of_le b HSZW.out))⟩
def Bo.bes (n a:Nat):Bool:=
 let D:=Bo.ups n ((2 * a:Nat):Int)
 (List.range D.length).all fun j=>let b:=Bo.Beside n (Tt.wayX D (a:Int) j); decide (0≤b) && Nat.ble b.toNat (2 * n - 2)
theorem Bo.bes_1:((List.range' 0 36).all fun n=>(List.range n).all fun a=>Bo.bes n a) = true:=by decide +kernel
theorem Bo.bes_2:((List.range' 36 10).all fun n=>(List.range n).all fun a=>Bo.bes n a) = true:=by decide +kernel
theorem Bo.bes_3:((List.range' 46 7).all fun n=>(List.range n).all fun a=>Bo.bes n a) = true:=by decide +kernel
theorem Bo.bes_4:((List.range' 53 6).all fun n=>(List.range n).all fun a=>Bo.bes n a) = true:=by decide +kernel
theorem Bo.bes_5:((List.range' 59 6).all fun n=>(List.range n).all fun a=>Bo.bes n a) = true:=by decide +kernel
theorem Bo.bes_all {n a:Nat}(hn:n≤64)(ha:a < n):Bo.bes n a = true:=by
 have key:∀ s l,((List.range' s l).all fun n=>(List.range n).all fun a=>Bo.bes n a) = true→s≤n→n < s + l→Bo.bes n a = true:=fun s l h h1 h2=>
  List.all_eq_true.1 (List.all_eq_true.1 h n (List.mem_range'_1.2 ⟨h1,h2⟩)) a (List.mem_range.2 ha)
 by_cases h1:n < 36
 ·exact key _ _ Bo.bes_1 (Nat.zero_le _) (by omega)
 by_cases h2:n < 46
 ·exact key _ _ Bo.bes_2 (by omega) (by omega)
 by_cases h3:n < 53
 ·exact key _ _ Bo.bes_3 (by omega) (by omega)
 by_cases h4:n < 59
 ·exact key _ _ Bo.bes_4 (by omega) (by omega)
 exact key _ _ Bo.bes_5 (by omega) (by omega)
theorem Bo.beside_in {n a:Nat}(hn:n≤64)(ha:a < n)(j:Nat)(hj:j < (Bo.Direct (n:Int) (a:Int)).length):∃ b:Nat,Bo.Beside (n:Int) (Tt.wayX (Bo.Direct (n:Int) (a:Int)) (a:Int) j) = (b:Int)∧Bo.In 0 n b:=by
 have hD:Bo.Direct (n:Int) (a:Int) = Bo.ups n ((2 * a:Nat):Int):=by
  unfold Bo.Direct;rw [if_pos (by simp [Bo.leaf]; omega),show(2:Int) * (a:Int) = ((2 * a:Nat):Int) by omega]
 rw [hD] at hj ⊢;have h:=List.all_eq_true.1 (Bo.bes_all hn ha) j (List.mem_range.2 hj);simp only [Bool.and_eq_true,decide_eq_true_eq,Nat.ble_eq] at h;exact⟨_,(Int.toNat_of_nonneg h.1).symm,by omega,by omega,by omega⟩
theorem refpath_any (lv pv:Value)(L:List Lf)(P:List Pr)(x:Int)(pub:List UInt8)(hpub:pub.length = 32)(kv:Value)(ks:List (List UInt8))(w:World)(hL:Lvs w lv L)(hP:Pts w pv P)(hpl:∀ p∈P,p.loose.length≤1000)(hr:Tt.right L P = true)(hK:Hs w kv ks):
  Calls Try.prog 16 #[.agg #[lv,pv],.int .i64 x,.agg (bcells pub).toArray,kv] w fun e w'=>∃ lv' pv',e = .returned (.tuple #[.agg #[lv',pv'],.int .i64 (Tt.pathErr L x ks.length)])∧Kept w.heap.size w.heap.size w w'∧∃ SL,Mine (fun k=>k < w.heap.size) w' lv' pv' (Tt.pathL L P x pub ks) (Tt.pathP L P x ks) SL:=by
 have hF:=Tt.fine_of hr;obtain⟨h64,hpe,_⟩:=Tt.right_parts hr;have hn:L.length≤1000:=by omega
 have hp:P.length≤1000:=by omega
 cases hno:Tt.none L x with
 | true=>
  have he:Tt.pathErr L x ks.length = 7:=by unfold Tt.pathErr; rw [hno]; rfl
  refine(refpath_none lv pv L P x pub hpub kv w hL hP hn hno).mono ?_;rintro e w' ⟨rfl,k⟩;refine⟨_,_,by rw [he],k,[],?_⟩
  have hm:=Mine.empty (fun k=>k < w.heap.size) w' (fun j hj=>Nat.lt_of_lt_of_le hj k.size)
  unfold Tt.pathL Tt.pathP;rw [he];exact hm
 | false=>
  obtain⟨k,rfl,hk⟩:=Tt.none_not hno
  by_cases hle:(Bo.Direct (L.length:Int) (k:Int)).length = ks.length
  ·have he:Tt.pathErr L (k:Int) ks.length = 0:=by unfold Tt.pathErr Tt.pathWay; rw [hno,hle]; simp
   obtain⟨ws,hws⟩:∃ ws,ws = Bo.Direct (L.length:Int) (k:Int):=⟨_,rfl⟩;have hm9:ws.length≤66:=by rw [hws]; exact Bo.direct_len66 _ _
   have hpos:∀ i (h:i < ws.length),0≤ws[i]∧ws[i].toNat / 2 < P.length:=fun i h=>by
    obtain⟨q,h1,h2⟩:=Bo.direct_odd (n:=L.length) (a:=(k:Int)) (y:=ws[i]) (by rw [← hws]; exact List.getElem_mem h)
    omega
   have hbs:=fun j (hj:j < ws.length)=>Bo.beside_in h64 hk j (by rw [← hws]; exact hj)
   rw [← hws] at hbs;have hHl:∀ j,(Tt.sideH L P ws (k:Int) j).length = 32:=fun j=>Tt.hashNode_len L P _ (by omega)
   refine(refpath_ok lv pv L P k pub hpub kv ks ws (Tt.sideH L P ws (k:Int)) ws.length w hL hP hn hp hpl hK hk hno hws.symm rfl (by rw [hws]; exact hle.symm) hm9 hpos (fun wv d j hjd u hl hp2 hw2 hk2=>?_)).mono ?_
   ·refine refsaid_calls L P lv pv wv kv (k:Int) (by omega) (by omega) ws ks (by rw [hws]; exact hle.symm) (by omega) (Tt.wayX ws (k:Int)) (fun j=>Bo.Beside (L.length:Int) (Tt.wayX ws (k:Int) j)) (Tt.sideH L P ws (k:Int)) rfl (fun j hj=>?_) hHl (fun j _ u=>rbeside_calls _ _ u) (fun j hj u hl hp2=>?_) d j hjd u hl hp2 hw2 hk2
    ·show ws.getD j 0 = _
     rw [List.getD_eq_getElem?_getD,List.getElem?_eq_getElem hj,Option.getD_some]
    ·obtain⟨b,h1,h2⟩:=hbs j hj
     have h3:=refhashat_node lv pv L P hF b h2 u hl hp2;show Calls _ _ #[_,.int .i64 (Bo.Beside (L.length:Int) (Tt.wayX ws (k:Int) j))] _ (fun e u'=>e = .returned (.agg (bcells (Tt.hashNode L P (Bo.Beside L.length (Tt.wayX ws (k:Int) j)).toNat)).toArray)∧_)
     rw [h1,Int.toNat_natCast];exact h3
   ·rintro e w' ⟨lv',pv',rfl,hkk,SL,hm⟩
    refine⟨lv',pv',by rw [he],hkk,SL,?_⟩
    unfold Tt.pathL Tt.pathP Tt.pathWay;rw [he,Int.toNat_natCast,List.getElem?_eq_getElem hk,← hws];exact hm
  ·have he:Tt.pathErr L (k:Int) ks.length = 16:=by unfold Tt.pathErr Tt.pathWay; rw [hno,if_neg (by simp),if_neg hle]
   obtain⟨_,kad,kg,ko,kc,rfl,_⟩:=hK;refine(refpath_bad lv pv L P (k:Int) pub hpub kad ks.length kc w hL hP hn hno hle).mono ?_;rintro e w' ⟨rfl,k⟩;refine⟨_,_,by rw [he],k,[],?_⟩
   have hm:=Mine.empty (fun k=>k < w.heap.size) w' (fun j hj=>Nat.lt_of_lt_of_le hj k.size)
   unfold Tt.pathL Tt.pathP;rw [he];exact hm
end Go.Proofs.Ytlpabcnhcbgfjaa
