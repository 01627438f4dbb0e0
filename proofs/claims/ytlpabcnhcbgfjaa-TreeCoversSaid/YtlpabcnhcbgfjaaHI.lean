/-
 TreeText; TreePut; TreeHashMath; TreeRefText; TreeRefHash; TreeHashOf; TreeHash: several texts in one.
-/
import Derived.Test.YtlpabcnhcbgfjaaGX
import Derived.Test.YtlpabcnhcbgfjaaGV
import Derived.Test.YtlpabcnhcbgfjaaIC
import Derived.Test.YtlpabcnhcbgfjaaGB
import Derived.Test.YtlpabcnhcbgfjaaHK
import Derived.Test.YtlpabcnhcbgfjaaHeldEx
import Derived.Test.YtlpabcnhcbgfjaaGY
import Derived.Test.YtlpabcnhcbgfjaaGJ
import Derived.Test.YtlpabcnhcbgfjaaGA
import Derived.Test.YtlpabcnhcbgfjaaGC
import Derived.Test.YtlpabcnhcbgfjaaTreeRight
import Derived.Test.YtlpabcnhcbgfjaaTreeJoinMath
set_option maxRecDepth 100000
set_option maxHeartbeats 6400000
namespace Go.Proofs.Ytlpabcnhcbgfjaa
open Go.RowKit Go.Lib
open List renaming setIfInBounds_toArray → sA, set_cons_zero → sB, set_cons_succ → sC
open BigFrame renaming wpList_want → wQ
namespace Tt
def leafText (l:Lf):List UInt8:=if 0 < l.name then [1] ++ Wm.enc l.name.toNat ++ l.pub ++ l.ver ++ l.abv else [0]
def looseText (l:List Int):List UInt8:=(l.map fun y=>Wm.enc y.toNat).flatten
def parentText (p:Pr):List UInt8:=if p.set then [1] ++ p.pub ++ p.abv ++ Wm.enc p.loose.length ++ looseText p.loose else [0]
theorem looseText_snoc (l:List Int)(y:Int):looseText (l ++ [y]) = looseText l ++ Wm.enc y.toNat:=by
 unfold looseText;rw [List.map_append,List.flatten_append];simp
theorem looseText_length:∀ l:List Int,(looseText l).length≤8 * l.length
 | []=>Nat.le_refl _
 | y :: l=>by
  have h1:=Wm.enc_length_le y.toNat;have h2:=looseText_length l;unfold looseText at h2 ⊢;rw [List.map_cons,List.flatten_cons,List.length_append,List.length_cons]
  omega
theorem leafText_length {l:Lf}(h:l.Ok):(leafText l).length≤200:=by
 unfold leafText;have h1:=Wm.enc_length_le l.name.toNat
 split
 ·simp only [List.length_append,List.length_singleton,h.1,h.2.1,h.2.2]
  omega
 ·simp
theorem parentText_length {p:Pr}(h:p.Ok)(hl:p.loose.length≤1000):(parentText p).length≤10000:=by
 unfold parentText;have h1:=Wm.enc_length_le p.loose.length;have h2:=looseText_length p.loose
 split
 ·simp only [List.length_append,List.length_singleton,h.1,h.2]
  omega
 ·simp
end Tt
section
variable {w:World} {b:Nat} {l:Lf} {t:TypeId}
theorem lf_name (h:w.heap[b]? = some (.cells l.cells.toArray t (0,0))):w.cell? ⟨b,0,none⟩ = some (.int .i64 l.name):=by
 rw [cell_of_row w b 0 _ _ _ h];exact l.at_name
theorem lf_part (h:w.heap[b]? = some (.cells l.cells.toArray t (0,0)))(o:Nat)(d:List UInt8)(_hd:d.length = 32)(he:l.cells.toArray.extract o (o + 32) = (bcells d).toArray):w.rangeAt b o (bcells d):=fun j v hj=>by
 rw [cell_of_row w b (o + j) _ _ _ h];have h2:(l.cells.toArray.extract o (o + 32))[j]? = some v:=by rw [he]; simpa using hj
 rw [Array.getElem?_extract] at h2
 split at h2
 ·exact h2
 ·cases h2
end
namespace Tt
def leafB:List UInt8:=[108,101,97,102]
def nodeB:List UInt8:=[110,111,100,101]
def hashSeg (L:List Lf)(P:List Pr):Nat→Nat→Nat→List UInt8
 | 0,_,_=>[]
 | k + 1,a,m=>if m = 1 then Sm.sum (leafB ++ leafText (L.getD a Lf.zero)) else Sm.sum (nodeB ++ parentText (P.getD (Bo.root a m / 2) Pr.zero) ++ hashSeg L P k a (Bo.half m) ++ hashSeg L P k (a + Bo.half m) (m - Bo.half m))
theorem hashSeg_one (L:List Lf)(P:List Pr)(k a:Nat):hashSeg L P (k + 1) a 1 = Sm.sum (leafB ++ leafText (L.getD a Lf.zero)):=by rw [hashSeg,if_pos rfl]
theorem hashSeg_two (L:List Lf)(P:List Pr)(k a m:Nat)(h:2≤m):hashSeg L P (k + 1) a m = Sm.sum (nodeB ++ parentText (P.getD (Bo.root a m / 2) Pr.zero) ++ hashSeg L P k a (Bo.half m) ++ hashSeg L P k (a + Bo.half m) (m - Bo.half m)):=by rw [hashSeg,if_neg (by omega)]
end Tt
theorem load_ints9 {w:World}{g o:Nat}{a:Option Addr}{n c:Nat}(h:w.cell? ⟨g,o,none⟩ = some (.slice a n c)):(loadVar 29 ⟨g,o,none⟩).run Try.prog w = .ok (.slice a n c) w:=by
 go_simp
theorem text_calls8 (k:List UInt8)(hk:k.length = 32)(w:World):Calls Try.prog 64 #[.agg (bcells k).toArray] w fun e w'=>e = .returned (.string (str k))∧Kept w.heap.size w.heap.size w w':=by
 obtain⟨sk,hsk⟩:∃ sk,sk = str k:=⟨_,rfl⟩;rw [← hsk];have Hsk:=hid hsk;generalize hkc:(bcells k).toArray = kc
 have cA:(convert 106 9 (.slice (some ⟨w.heap.size,0,none⟩) 32 32)).run Try.prog (w.alloc (.cells kc 33)) = .ok (.string sk) (w.alloc (.cells kc 33)):=by
  rw [hsk];exact lit_string w kc 33 k 32 hk hkc.symm
 clear hkc hsk
 go_enter Try.func64,Try.ntmps64
 go_upto_region 1 with fail
 have k1:Kept w.heap.size w.heap.size w (w.alloc (.cells kc 33)):=(Kept.refl _ _ _).alloc (Nat.le_refl _) _
 obtain⟨wa,hwa⟩:∃ wa,wa = w.heap.size:=⟨_,rfl⟩;rw [← hwa] at cA ⊢;generalize w.alloc (.cells kc 33) = w1 at cA k1 ⊢
 have K1:=hid k1;clear hwa k1;go_wp2;go_ret;exact⟨rfl,K1.out⟩
theorem refleaf_calls (l:Lf)(hok:l.Ok)(h0:0≤l.name)(h64:l.name≤64)(w:World):Calls Try.prog 77 #[.agg l.cells.toArray] w fun e w'=>e = .returned (.string (str (Tt.leafText l)))∧Kept w.heap.size w.heap.size w w':=by
 obtain⟨nn,hnn⟩:∃ nn:Nat,l.name = (nn:Int):=⟨l.name.toNat,by omega⟩
 have HOK:=hid hok;have HNN:=hid hnn;have HNU:=hid (fun u=>refnum nn u (by omega))
 obtain⟨ss,hss⟩:∃ ss,ss = str (Tt.leafText l):=⟨_,rfl⟩;rw [← hss];have HSS:=hid hss;obtain⟨sn,hsn⟩:∃ sn,sn = str (Wm.enc nn):=⟨_,rfl⟩;rw [← hsn] at HNU;have HSN:=hid hsn;obtain⟨D,hD⟩:∃ D,D = l.cells.toArray:=⟨_,rfl⟩;rw [← hD];have HDE:=hid hD;clear hok hss hsn hD h0
 go_enter Try.func77,Try.ntmps77
 go_upto_region 1 with fail
 have k1:=kA w (.cells D 36)
 have b1:=heap_new w (.cells D 36)
 generalize w.alloc (.cells D 36) = w1 at k1 b1 ⊢
 obtain⟨lb,hlb⟩:∃ lb,lb = w.heap.size:=⟨_,rfl⟩;rw [← hlb] at b1
 (try rw [← hlb])
 rw [HDE.out] at b1;have K1:=hid k1;have B1:=hid b1;clear k1 b1 hlb;have c0:=lf_name B1.out;rw [HNN.out] at c0;have HFL:=hid (fun(x:Bool) u=>refflag x u)
 by_cases hz:nn = 0
 ·have hgt:¬ (0:Int) < (nn:Int):=by omega
  have hgt2:¬ 0 < nn:=by omega
  have hge:¬ (nn:Int) > 0:=by omega
  have HRE:=hid (show str [0] = ss by rw [HSS.out,Tt.leafText,if_neg (by rw [HNN.out]; omega)])
  clear hz;refine wp_region_lit ?_;iterate 3 (refine @wQ _ _ _ _ _ _ _ ?_ ?_;kernel_rfl;intro K hK;go_simp;refine hK _ _ ?_;clear hK K)
  refine @wQ _ _ _ _ _ _ _ ?_ ?_;kernel_rfl;intro K hK;go_simp;go_at_call 86
  refine((HFL.out false _).mono (fun e w' h=>show e = .returned (.string (str [0]))∧w' = w1 from⟨by rw [h.1]; rfl,h.2.symm⟩)).mono ?_
  rintro e w2 ⟨rfl,hw2⟩;subst w2;refine hK _ _ ?_;clear hK K;refine @wQ _ _ _ _ _ _ _ ?_ ?_;kernel_rfl;intro K hK;go_simp;refine hK _ _ ?_;clear hK K;rw [HRE.out]
  go_upto_region 2 with fail
  refine wp_region_lit ?_;iterate 3 (refine @wQ _ _ _ _ _ _ _ ?_ ?_;kernel_rfl;intro K hK;go_simp;refine hK _ _ ?_;clear hK K)
  clear c0 hgt hgt2 hge;go_wp2;go_ret;exact⟨rfl,K1.out⟩
 ·have hgt:(0:Int) < (nn:Int):=by omega
  have hgt2:0 < nn:=by omega
  have hge:(nn:Int) > 0:=by omega
  obtain⟨s1,hs1⟩:∃ s1,s1 = str [1]:=⟨_,rfl⟩;obtain⟨sp,hsp⟩:∃ sp,sp = str l.pub:=⟨_,rfl⟩;obtain⟨sv,hsv⟩:∃ sv,sv = str l.ver:=⟨_,rfl⟩;obtain⟨sa,hsa⟩:∃ sa,sa = str l.abv:=⟨_,rfl⟩
  have HRE:=hid (show s1 ++ sn ++ sp ++ sv ++ sa = ss by
   rw [HSS.out,Tt.leafText,if_pos (by rw [HNN.out]; omega),HSN.out,hs1,hsp,hsv,hsa,HNN.out,Int.toNat_natCast,str_append,str_append,str_append,str_append])
  have z1:s1.size = 1:=by rw [hs1,str_size]; rfl
  have z2:sn.size≤8:=by rw [HSN.out,str_size]; exact Wm.enc_length_le nn
  have z3:sp.size = 32:=by rw [hsp,str_size]; exact HOK.out.1
  have z4:sv.size = 32:=by rw [hsv,str_size]; exact HOK.out.2.1
  have z5:sa.size = 32:=by rw [hsa,str_size]; exact HOK.out.2.2
  have q1:¬ 9223372036854775807 < s1.size + sn.size:=by omega
  have q2:¬ 9223372036854775807 < s1.size + sn.size + sp.size:=by omega
  have q3:¬ 9223372036854775807 < s1.size + sn.size + sp.size + sv.size:=by omega
  have q4:¬ 9223372036854775807 < s1.size + sn.size + sp.size + sv.size + sa.size:=by omega
  clear z1 z2 z3 z4 z5;have HFL1:=hid (fun u=>(HFL.out true u).mono (fun e w' h=>show e = .returned (.string s1)∧w' = u from⟨by rw [h.1,hs1]; rfl,h.2.symm⟩))
  have HTP:=hid (fun u=>text_calls8 l.pub HOK.out.1 u)
  have HTV:=hid (fun u=>text_calls8 l.ver HOK.out.2.1 u)
  have HTA:=hid (fun u=>text_calls8 l.abv HOK.out.2.2 u)
  rw [← hsp] at HTP;rw [← hsv] at HTV;rw [← hsa] at HTA;have HLN:=hid (fun(x:World) (k:Kept w1.heap.size w1.heap.size w1 x)=>load_int ((k.cell (p:=⟨lb,0,none⟩) (lt_of_block B1.out) (Nat.ne_of_lt (lt_of_block B1.out))).trans c0))
  have HLP:=hid (fun(x:World) (k:Kept w1.heap.size w1.heap.size w1 x)=>run_loadVar_mid x lb 1 34 (bcells l.pub) _ (rangeAt_kept k (lf_part B1.out 1 l.pub HOK.out.1 (Lf.part_pub HOK.out)) (lt_of_block B1.out) (Nat.ne_of_lt (lt_of_block B1.out))) Try.underlying34 rfl (hashInfoT (by rw [bcells_length,HOK.out.1])))
  have HLV:=hid (fun(x:World) (k:Kept w1.heap.size w1.heap.size w1 x)=>run_loadVar_mid x lb 33 34 (bcells l.ver) _ (rangeAt_kept k (lf_part B1.out 33 l.ver HOK.out.2.1 (Lf.part_ver HOK.out)) (lt_of_block B1.out) (Nat.ne_of_lt (lt_of_block B1.out))) Try.underlying34 rfl (hashInfoT (by rw [bcells_length,HOK.out.2.1])))
  have HLA:=hid (fun(x:World) (k:Kept w1.heap.size w1.heap.size w1 x)=>run_loadVar_mid x lb 65 34 (bcells l.abv) _ (rangeAt_kept k (lf_part B1.out 65 l.abv HOK.out.2.2 (Lf.part_abv HOK.out)) (lt_of_block B1.out) (Nat.ne_of_lt (lt_of_block B1.out))) Try.underlying34 rfl (hashInfoT (by rw [bcells_length,HOK.out.2.2])))
  obtain⟨DP,hDP⟩:∃ D,D = (bcells l.pub).toArray:=⟨_,rfl⟩;obtain⟨DV,hDV⟩:∃ D,D = (bcells l.ver).toArray:=⟨_,rfl⟩;obtain⟨DA,hDA⟩:∃ D,D = (bcells l.abv).toArray:=⟨_,rfl⟩;rw [← hDP] at HTP HLP;rw [← hDV] at HTV HLV;rw [← hDA] at HTA HLA;clear hz hs1 hsp hsv hsa hDP hDV hDA;refine wp_region_lit ?_;iterate 3 (refine @wQ _ _ _ _ _ _ _ ?_ ?_;kernel_rfl;intro K hK;go_simp;refine hK _ _ ?_;clear hK K)
  refine @wQ _ _ _ _ _ _ _ ?_ ?_;kernel_rfl;intro K hK;go_simp;go_at_call 86
  refine(HFL1.out _).mono ?_;rintro e w2 ⟨rfl,hw2⟩;subst w2;refine hK _ _ ?_;clear hK K;refine @wQ _ _ _ _ _ _ _ ?_ ?_;kernel_rfl;intro K hK;go_simp;refine hK _ _ ?_;clear hK K
  go_upto_region 2 with fail
  refine wp_region_lit ?_;iterate 3 (refine @wQ _ _ _ _ _ _ _ ?_ ?_;kernel_rfl;intro K hK;go_simp;refine hK _ _ ?_;clear hK K)
  clear c0 hgt hgt2 hge
  go_upto_region 3 with fail
  have KD:Kept w1.heap.size w1.heap.size w1 w1.drew:=(Kept.refl _ _ _).drew;refine wp_region_noPanic ?_;refine wp_region_held_drew (S:=fun w'=>Kept w1.heap.size w1.heap.size w1 w') (by kernel_rfl) ((Kept.refl _ _ _).drew) (fun hH=>?_)
  refine wpAnyH_take_ex (i:=0) 11 rfl rfl (by kernel_rfl) (by kernel_rfl) (by kernel_rfl) (fun _ _ _ _ h=>h) (by kernel_rfl) hH ?_
  apply Exists.intro;apply And.intro
  ·intro w9 _
   go_simp
   first | done | rfl
  simp only [sA,sB,sC];refine wpAnyH_take_ex (i:=1) 12 rfl rfl (by kernel_rfl) (by kernel_rfl) (by kernel_rfl) (fun _ _ _ _ h=>h) (by kernel_rfl) hH ?_
  apply Exists.intro;apply And.intro
  ·intro w9 _
   go_simp
   first | done | rfl
  simp only [sA,sB,sC];refine wpAnyH_take_at (i:=2) 13 (.int .i64 (nn:Int)) rfl rfl (by kernel_rfl) (by kernel_rfl) (by kernel_rfl) (fun _ _ _ h=>h) (yieldsIf_load_known (by kernel_rfl) 3 _ rfl (lb) (0) rfl (.int .i64 (nn:Int)) (HLN.out)) hH ?_
  simp only [sA,sB,sC];refine wpAnyH_take_ex (i:=5) 16 rfl rfl (by kernel_rfl) (by kernel_rfl) (by kernel_rfl) (fun _ _ _ _ h=>h) (by kernel_rfl) hH ?_
  apply Exists.intro;apply And.intro
  ·intro w9 _
   go_simp
   first | done | rfl
  simp only [sA,sB,sC];refine wpAnyH_take_at (i:=6) 17 (.agg DP) rfl rfl (by kernel_rfl) (by kernel_rfl) (by kernel_rfl) (fun _ _ _ h=>h) (yieldsIf_load_known (by kernel_rfl) 34 _ rfl (lb) (1) rfl (.agg DP) (HLP.out)) hH ?_
  simp only [sA,sB,sC];refine wpAnyH_take_ex (i:=9) 20 rfl rfl (by kernel_rfl) (by kernel_rfl) (by kernel_rfl) (fun _ _ _ _ h=>h) (by kernel_rfl) hH ?_
  apply Exists.intro;apply And.intro
  ·intro w9 _
   go_simp
   first | done | rfl
  simp only [sA,sB,sC];refine wpAnyH_take_at (i:=10) 21 (.agg DV) rfl rfl (by kernel_rfl) (by kernel_rfl) (by kernel_rfl) (fun _ _ _ h=>h) (yieldsIf_load_known (by kernel_rfl) 34 _ rfl (lb) (33) rfl (.agg DV) (HLV.out)) hH ?_
  simp only [sA,sB,sC];refine wpAnyH_take_ex (i:=13) 24 rfl rfl (by kernel_rfl) (by kernel_rfl) (by kernel_rfl) (fun _ _ _ _ h=>h) (by kernel_rfl) hH ?_
  apply Exists.intro;apply And.intro
  ·intro w9 _
   go_simp
   first | done | rfl
  simp only [sA,sB,sC];refine wpAnyH_take_at (i:=14) 25 (.agg DA) rfl rfl (by kernel_rfl) (by kernel_rfl) (by kernel_rfl) (fun _ _ _ h=>h) (yieldsIf_load_known (by kernel_rfl) 34 _ rfl (lb) (65) rfl (.agg DA) (HLA.out)) hH ?_
  simp only [sA,sB,sC];refine wpAnyH_ready (rs:=[3]) (by kernel_rfl) (by simp) ?_
  refine AllReadyH.cons rfl (fun K hK=>?_) AllReadyH.nil
  rw [if_pos (by rfl)]
  go_simp
  go_wp2_with (go_at_call 87; refine(HNU.out _).mono ?_; rintro e w4 ⟨rfl,kw4⟩)
  have K4:Kept w1.heap.size w1.heap.size w1 w4:=KD.next1 kw4;refine hK.out _ _ (K4) (fun hH=>?_)
  clear hK K;refine wpAnyH_take_ex (i:=4) 15 rfl rfl (by kernel_rfl) (by kernel_rfl) (by kernel_rfl) (fun _ _ _ _ h=>h) (by kernel_rfl) hH ?_
  apply Exists.intro;apply And.intro
  ·intro w9 _
   go_simp
   first | done | rfl
  simp only [sA,sB,sC];refine wpAnyH_ready (rs:=[7]) (by kernel_rfl) (by simp) ?_
  refine AllReadyH.cons rfl (fun K hK=>?_) AllReadyH.nil
  rw [if_pos (by rfl)]
  go_simp
  go_wp2_with (go_at_call 64; refine(HTP.out _).mono ?_; rintro e w5 ⟨rfl,kw5⟩)
  have K5:Kept w1.heap.size w1.heap.size w1 w5:=K4.next1 kw5;refine hK.out _ _ (K5) (fun hH=>?_)
  clear hK K;refine wpAnyH_take_ex (i:=8) 19 rfl rfl (by kernel_rfl) (by kernel_rfl) (by kernel_rfl) (fun _ _ _ _ h=>h) (by kernel_rfl) hH ?_
  apply Exists.intro;apply And.intro
  ·intro w9 _
   go_simp
   first | done | rfl
  simp only [sA,sB,sC];refine wpAnyH_ready (rs:=[11]) (by kernel_rfl) (by simp) ?_
  refine AllReadyH.cons rfl (fun K hK=>?_) AllReadyH.nil
  rw [if_pos (by rfl)]
  go_simp
  go_wp2_with (go_at_call 64; refine(HTV.out _).mono ?_; rintro e w6 ⟨rfl,kw6⟩)
  have K6:Kept w1.heap.size w1.heap.size w1 w6:=K5.next1 kw6;refine hK.out _ _ (K6) (fun hH=>?_)
  clear hK K;refine wpAnyH_take_ex (i:=12) 23 rfl rfl (by kernel_rfl) (by kernel_rfl) (by kernel_rfl) (fun _ _ _ _ h=>h) (by kernel_rfl) hH ?_
  apply Exists.intro;apply And.intro
  ·intro w9 _
   go_simp
   first | done | rfl
  simp only [sA,sB,sC];refine wpAnyH_ready (rs:=[15]) (by kernel_rfl) (by simp) ?_
  refine AllReadyH.cons rfl (fun K hK=>?_) AllReadyH.nil
  rw [if_pos (by rfl)]
  go_simp
  go_wp2_with (go_at_call 64; refine(HTA.out _).mono ?_; rintro e w7 ⟨rfl,kw7⟩)
  have K7:Kept w1.heap.size w1.heap.size w1 w7:=K6.next1 kw7;refine hK.out _ _ (K7) (fun hH=>?_)
  clear hK K;refine wpAnyH_take_ex (i:=16) 27 rfl rfl (by kernel_rfl) (by kernel_rfl) (by kernel_rfl) (fun _ _ _ _ h=>h) (by kernel_rfl) hH ?_
  apply Exists.intro;apply And.intro
  ·intro w9 _
   go_simp
   first | done | rfl
  simp only [sA,sB,sC];refine wpAnyH_take_ex (i:=17) 3 rfl rfl (by kernel_rfl) (by kernel_rfl) (by kernel_rfl) (fun _ _ _ _ h=>h) (by kernel_rfl) hH ?_
  apply Exists.intro;apply And.intro
  ·intro w9 _
   go_simp
   first | done | rfl
  simp only [sA,sB,sC];refine wpAnyH_done (by kernel_rfl) ?_ _
  refine NoPanic.normal ?_;clear hH;rw [HRE.out];go_wp2;go_ret;exact⟨rfl,K1.out.next1 K7⟩
theorem refparent_calls (p:Pr)(hok:p.Ok)(s:Value)(w:World)(hs:Nums w s p.loose)(hl:p.loose.length≤1000)(hlo:∀ y∈p.loose,0≤y∧y≤64):Calls Try.prog 78 #[.agg (p.cells s).toArray] w fun e w'=>e = .returned (.string (str (Tt.parentText p)))∧Kept w.heap.size w.heap.size w w':=by
 obtain⟨sad,sc,ng,no,rfl,hnc⟩:=hs;obtain⟨ln,hln⟩:∃ ln,ln = p.loose.length:=⟨_,rfl⟩;have hln9:(ln:Int)≤1000:=by omega
 have HOK:=hid hok;have HLN:=hid hln;have HNC:=hid hnc;have HLO:=hid hlo;have HNU:=hid (fun(n:Nat) (hn:n≤1000) u=>refnum n u (by omega))
 rw [← hln];obtain⟨D,hD⟩:∃ D,D = (p.cells (.slice sad ln sc)).toArray:=⟨_,rfl⟩;rw [← hD];have HDE:=hid hD;clear hok hln hnc hlo hl hD
 go_enter Try.func78,Try.ntmps78
 go_upto_region 1 with fail
 have k1:=kA w (.cells D 62)
 have b1:=heap_new w (.cells D 62)
 generalize w.alloc (.cells D 62) = w1 at k1 b1 ⊢
 obtain⟨lb,hlb⟩:∃ lb,lb = w.heap.size:=⟨_,rfl⟩;rw [← hlb] at b1
 (try rw [← hlb])
 rw [HDE.out] at b1;have K1:=hid k1;have B1:=hid b1;clear k1 b1 hlb;have c0:=pr_cell0 B1.out;have c65:=pr_loose HOK.out B1.out;obtain⟨st,hst⟩:∃ st,st = p.set:=⟨_,rfl⟩;rw [← hst] at c0;have HST:=hid hst;clear hst
 cases st with
 | false=>
  have HRE:=hid (show str [0] = str (Tt.parentText p) by rw [Tt.parentText,← HST.out,if_neg (by decide)])
  have HFL:=hid (fun u=>(refflag false u).mono (fun e w' h=>show e = .returned (.string (str (Tt.parentText p)))∧w' = u from⟨by rw [h.1,← HRE.out]; rfl,h.2.symm⟩))
  obtain⟨ss,hss⟩:∃ ss,ss = str (Tt.parentText p):=⟨_,rfl⟩;rw [← hss] at HFL;have HSS:=hid hss;clear hss;refine wp_region_lit ?_;iterate 2 (refine @wQ _ _ _ _ _ _ _ ?_ ?_;kernel_rfl;intro K hK;go_simp;refine hK _ _ ?_;clear hK K)
  refine @wQ _ _ _ _ _ _ _ ?_ ?_;kernel_rfl;intro K hK;go_simp;go_at_call 86
  refine(HFL.out _).mono ?_;rintro e w2 ⟨rfl,hw2⟩;subst w2;refine hK _ _ ?_;clear hK K;refine @wQ _ _ _ _ _ _ _ ?_ ?_;kernel_rfl;intro K hK;go_simp;refine hK _ _ ?_;clear hK K
  go_upto_region 2 with fail
  refine wp_region_lit ?_;iterate 2 (refine @wQ _ _ _ _ _ _ _ ?_ ?_;kernel_rfl;intro K hK;go_simp;refine hK _ _ ?_;clear hK K)
  clear c0 c65;go_wp2;go_ret;exact⟨by rw [HSS.out]; rfl,K1.out⟩
 | true=>
  obtain⟨s1,hs1⟩:∃ s1,s1 = str [1]:=⟨_,rfl⟩;obtain⟨sp,hsp⟩:∃ sp,sp = str p.pub:=⟨_,rfl⟩;obtain⟨sa,hsa⟩:∃ sa,sa = str p.abv:=⟨_,rfl⟩;obtain⟨sn,hsn⟩:∃ sn,sn = str (Wm.enc ln):=⟨_,rfl⟩;obtain⟨s0,hs0⟩:∃ s0,s0 = str ([1] ++ p.pub ++ p.abv ++ Wm.enc ln ++ Tt.looseText (p.loose.take 0)):=⟨_,rfl⟩
  have HRE:=hid (show s1 ++ sp ++ sa ++ sn = s0 by
   rw [hs0,hs1,hsp,hsa,hsn,str_append,str_append,str_append,List.take_zero]
   exact congrArg str (List.append_nil _).symm)
  have HS0:=hid hs0;have HFL:=hid (fun u=>(refflag true u).mono (fun e w' h=>show e = .returned (.string s1)∧w' = u from⟨by rw [h.1,hs1]; rfl,h.2.symm⟩))
  have z1:s1.size = 1:=by rw [hs1,str_size]; rfl
  have z2:sn.size≤8:=by rw [hsn,str_size]; exact Wm.enc_length_le ln
  have z3:sp.size = 32:=by rw [hsp,str_size]; exact HOK.out.1
  have z5:sa.size = 32:=by rw [hsa,str_size]; exact HOK.out.2
  have q1:¬ 9223372036854775807 < s1.size + sp.size:=by omega
  have q2:¬ 9223372036854775807 < s1.size + sp.size + sa.size:=by omega
  have q3:¬ 9223372036854775807 < s1.size + sp.size + sa.size + sn.size:=by omega
  clear z1 z2 z3 z5;have HTP:=hid (fun u=>text_calls8 p.pub HOK.out.1 u)
  have HTA:=hid (fun u=>text_calls8 p.abv HOK.out.2 u)
  have HNL:=hid (fun u=>HNU.out ln (by omega) u)
  rw [← hsp] at HTP;rw [← hsa] at HTA;rw [← hsn] at HNL;have HLS:=hid (fun(x:World) (k:Kept w1.heap.size w1.heap.size w1 x)=>load_ints9 ((k.cell (p:=⟨lb,65,none⟩) (lt_of_block B1.out) (Nat.ne_of_lt (lt_of_block B1.out))).trans c65))
  have HLP:=hid (fun(x:World) (k:Kept w1.heap.size w1.heap.size w1 x)=>run_loadVar_mid x lb 1 34 (bcells p.pub) _ (rangeAt_kept k (pr_pub HOK.out B1.out) (lt_of_block B1.out) (Nat.ne_of_lt (lt_of_block B1.out))) Try.underlying34 rfl (hashInfoT (by rw [bcells_length,HOK.out.1])))
  have HLA:=hid (fun(x:World) (k:Kept w1.heap.size w1.heap.size w1 x)=>run_loadVar_mid x lb 33 34 (bcells p.abv) _ (rangeAt_kept k (pr_abv HOK.out B1.out) (lt_of_block B1.out) (Nat.ne_of_lt (lt_of_block B1.out))) Try.underlying34 rfl (hashInfoT (by rw [bcells_length,HOK.out.2])))
  obtain⟨DP,hDP⟩:∃ D,D = (bcells p.pub).toArray:=⟨_,rfl⟩;obtain⟨DA,hDA⟩:∃ D,D = (bcells p.abv).toArray:=⟨_,rfl⟩;rw [← hDP] at HTP HLP;rw [← hDA] at HTA HLA;clear hs1 hsp hsa hsn hs0 hDP hDA;refine wp_region_lit ?_;iterate 2 (refine @wQ _ _ _ _ _ _ _ ?_ ?_;kernel_rfl;intro K hK;go_simp;refine hK _ _ ?_;clear hK K)
  refine @wQ _ _ _ _ _ _ _ ?_ ?_;kernel_rfl;intro K hK;go_simp;go_at_call 86
  refine(HFL.out _).mono ?_;rintro e w2 ⟨rfl,hw2⟩;subst w2;refine hK _ _ ?_;clear hK K;refine @wQ _ _ _ _ _ _ _ ?_ ?_;kernel_rfl;intro K hK;go_simp;refine hK _ _ ?_;clear hK K
  go_upto_region 2 with fail
  refine wp_region_lit ?_;iterate 2 (refine @wQ _ _ _ _ _ _ _ ?_ ?_;kernel_rfl;intro K hK;go_simp;refine hK _ _ ?_;clear hK K)
  clear c0 c65
  go_upto_region 3 with fail
  have KD:Kept w1.heap.size w1.heap.size w1 w1.drew:=(Kept.refl _ _ _).drew;refine wp_region_noPanic ?_;refine wp_region_held_drew (S:=fun w'=>Kept w1.heap.size w1.heap.size w1 w') (by kernel_rfl) ((Kept.refl _ _ _).drew) (fun hH=>?_)
  refine wpAnyH_take_ex (i:=0) 10 rfl rfl (by kernel_rfl) (by kernel_rfl) (by kernel_rfl) (fun _ _ _ _ h=>h) (by kernel_rfl) hH ?_
  apply Exists.intro;apply And.intro
  ·intro w9 _
   go_simp
   first | done | rfl
  simp only [sA,sB,sC];refine wpAnyH_take_ex (i:=1) 11 rfl rfl (by kernel_rfl) (by kernel_rfl) (by kernel_rfl) (fun _ _ _ _ h=>h) (by kernel_rfl) hH ?_
  apply Exists.intro;apply And.intro
  ·intro w9 _
   go_simp
   first | done | rfl
  simp only [sA,sB,sC];refine wpAnyH_take_at (i:=2) 12 (.agg DP) rfl rfl (by kernel_rfl) (by kernel_rfl) (by kernel_rfl) (fun _ _ _ h=>h) (yieldsIf_load_known (by kernel_rfl) 34 _ rfl (lb) (1) rfl (.agg DP) (HLP.out)) hH ?_
  simp only [sA,sB,sC];refine wpAnyH_take_ex (i:=5) 15 rfl rfl (by kernel_rfl) (by kernel_rfl) (by kernel_rfl) (fun _ _ _ _ h=>h) (by kernel_rfl) hH ?_
  apply Exists.intro;apply And.intro
  ·intro w9 _
   go_simp
   first | done | rfl
  simp only [sA,sB,sC];refine wpAnyH_take_at (i:=6) 16 (.agg DA) rfl rfl (by kernel_rfl) (by kernel_rfl) (by kernel_rfl) (fun _ _ _ h=>h) (yieldsIf_load_known (by kernel_rfl) 34 _ rfl (lb) (33) rfl (.agg DA) (HLA.out)) hH ?_
  simp only [sA,sB,sC];refine wpAnyH_take_ex (i:=9) 19 rfl rfl (by kernel_rfl) (by kernel_rfl) (by kernel_rfl) (fun _ _ _ _ h=>h) (by kernel_rfl) hH ?_
  apply Exists.intro;apply And.intro
  ·intro w9 _
   go_simp
   first | done | rfl
  simp only [sA,sB,sC];refine wpAnyH_take_at (i:=10) 20 (.slice sad ln sc) rfl rfl (by kernel_rfl) (by kernel_rfl) (by kernel_rfl) (fun _ _ _ h=>h) (yieldsIf_load_known (by kernel_rfl) 29 _ rfl (lb) (65) rfl (.slice sad ln sc) (HLS.out)) hH ?_
  simp only [sA,sB,sC];refine wpAnyH_take_ex (i:=11) 21 rfl rfl (by kernel_rfl) (by kernel_rfl) (by kernel_rfl) (fun _ _ _ _ h=>h) (by kernel_rfl) hH ?_
  apply Exists.intro;apply And.intro
  ·intro w9 _
   go_simp
   first | done | rfl
  simp only [sA,sB,sC];refine wpAnyH_ready (rs:=[3]) (by kernel_rfl) (by simp) ?_
  refine AllReadyH.cons rfl (fun K hK=>?_) AllReadyH.nil
  rw [if_pos (by rfl)]
  go_simp
  go_wp2_with (go_at_call 64; refine(HTP.out _).mono ?_; rintro e w4 ⟨rfl,kw4⟩)
  have K4:Kept w1.heap.size w1.heap.size w1 w4:=KD.next1 kw4;refine hK.out _ _ (K4) (fun hH=>?_)
  clear hK K;refine wpAnyH_take_ex (i:=4) 14 rfl rfl (by kernel_rfl) (by kernel_rfl) (by kernel_rfl) (fun _ _ _ _ h=>h) (by kernel_rfl) hH ?_
  apply Exists.intro;apply And.intro
  ·intro w9 _
   go_simp
   first | done | rfl
  simp only [sA,sB,sC];refine wpAnyH_ready (rs:=[7]) (by kernel_rfl) (by simp) ?_
  refine AllReadyH.cons rfl (fun K hK=>?_) AllReadyH.nil
  rw [if_pos (by rfl)]
  go_simp
  go_wp2_with (go_at_call 64; refine(HTA.out _).mono ?_; rintro e w5 ⟨rfl,kw5⟩)
  have K5:Kept w1.heap.size w1.heap.size w1 w5:=K4.next1 kw5;refine hK.out _ _ (K5) (fun hH=>?_)
  clear hK K;refine wpAnyH_take_ex (i:=8) 18 rfl rfl (by kernel_rfl) (by kernel_rfl) (by kernel_rfl) (fun _ _ _ _ h=>h) (by kernel_rfl) hH ?_
  apply Exists.intro;apply And.intro
  ·intro w9 _
   go_simp
   first | done | rfl
  simp only [sA,sB,sC];refine wpAnyH_ready (rs:=[12]) (by kernel_rfl) (by simp) ?_
  refine AllReadyH.cons rfl (fun K hK=>?_) AllReadyH.nil
  rw [if_pos (by rfl)]
  go_simp
  go_wp2_with (go_at_call 87; refine(HNL.out _).mono ?_; rintro e w6 ⟨rfl,kw6⟩)
  have K6:Kept w1.heap.size w1.heap.size w1 w6:=K5.next1 kw6;refine hK.out _ _ (K6) (fun hH=>?_)
  clear hK K;refine wpAnyH_take_ex (i:=13) 23 rfl rfl (by kernel_rfl) (by kernel_rfl) (by kernel_rfl) (fun _ _ _ _ h=>h) (by kernel_rfl) hH ?_
  apply Exists.intro;apply And.intro
  ·intro w9 _
   go_simp
   first | done | rfl
  simp only [sA,sB,sC];refine wpAnyH_take_ex (i:=14) 3 rfl rfl (by kernel_rfl) (by kernel_rfl) (by kernel_rfl) (fun _ _ _ _ h=>h) (by kernel_rfl) hH ?_
  apply Exists.intro;apply And.intro
  ·intro w9 _
   go_simp
   first | done | rfl
  simp only [sA,sB,sC];refine wpAnyH_done (by kernel_rfl) ?_ _
  refine NoPanic.normal ?_;rw [HRE.out];have KX:=hid K6;clear hH KD K4 K5 K6 q1 q2 q3;go_wp2
  go_loopw [3,4] (fun s3 s4 wr=>∃ i:Nat,s3 = .string (str ([1] ++ p.pub ++ p.abv ++ Wm.enc ln ++ Tt.looseText (p.loose.take i)))∧s4 = .int .i64 (i:Int)∧Hid (i≤ln)∧Hid (Kept w1.heap.size w1.heap.size w1 wr)) (fun _ s4 _=>ln - (RowKit.intOf s4).toNat)
  case atStart=>exact⟨0,by rw [HS0.out],rfl,hid (Nat.zero_le _),KX⟩
  case round=>
   clear KX HRE HS0;obtain⟨i,rfl,rfl,hi,HK⟩:=hrel;have c65:=((HK.out.cell (p:=⟨lb,65,none⟩) (lt_of_block B1.out) (Nat.ne_of_lt (lt_of_block B1.out))).trans (pr_loose HOK.out B1.out))
   by_cases hlt:i < ln
   ·have hiL:i < p.loose.length:=by rw [← HLN.out]; exact hlt
    have hlti:(i:Int) < (ln:Int):=by omega
    have hi0:¬ (i:Int) < 0:=by omega
    obtain⟨rfl,hg,hcell⟩:=HNC.out i hiL;obtain⟨y,hy⟩:∃ y,y = p.loose[i]:=⟨_,rfl⟩;obtain⟨hy0,hy1⟩:=HLO.out _ (List.getElem_mem hiL);rw [← hy] at hcell hy0 hy1;obtain⟨yn,hyn⟩:∃ yn:Nat,y = (yn:Int):=⟨y.toNat,by omega⟩
    have HTK:=hid (show str ([1] ++ p.pub ++ p.abv ++ Wm.enc ln ++ Tt.looseText (p.loose.take i)) ++ str (Wm.enc yn) = str ([1] ++ p.pub ++ p.abv ++ Wm.enc ln ++ Tt.looseText (p.loose.take (i + 1))) by
     rw [List.take_succ_eq_append_getElem hiL,Tt.looseText_snoc,← hy,hyn,Int.toNat_natCast,str_append,← List.append_assoc])
    rw [hyn] at hcell;have c0:=(HK.out.cell (p:=⟨ng,no + i,none⟩) (Nat.lt_of_lt_of_le hg K1.out.size) (Nat.ne_of_lt (Nat.lt_of_lt_of_le hg K1.out.size))).trans ((K1.out.cell (p:=⟨ng,no + i,none⟩) hg (Nat.ne_of_lt hg)).trans hcell);have HNY:=hid (fun u=>HNU.out yn (by omega) u)
    obtain⟨sy,hsy⟩:∃ sy,sy = str (Wm.enc yn):=⟨_,rfl⟩;rw [← hsy] at HNY HTK;obtain⟨sx,hsx⟩:∃ sx,sx = str ([1] ++ p.pub ++ p.abv ++ Wm.enc ln ++ Tt.looseText (p.loose.take i)):=⟨_,rfl⟩;rw [← hsx] at HTK ⊢
    have z1:sx.size≤9000:=by
     have h1:=Tt.looseText_length (p.loose.take i);have h2:=Wm.enc_length_le ln;rw [hsx,str_size];simp only [List.length_append,List.length_singleton,HOK.out.1,HOK.out.2];rw [List.length_take] at h1
     omega
    have z2:sy.size≤8:=by rw [hsy,str_size]; exact Wm.enc_length_le yn
    have q1:¬ 9223372036854775807 < sx.size + sy.size:=by omega
    have HLT:=hid hlt;clear hlt hi hiL hg hcell hy hy0 hy1 hyn hsy hsx
    go_upto_region 7 with fail
    refine wp_region_lit ?_;iterate 6 (refine @wQ _ _ _ _ _ _ _ ?_ ?_;kernel_rfl;intro K hK;go_simp;refine hK _ _ ?_;clear hK K)
    refine @wQ _ _ _ _ _ _ _ ?_ ?_;kernel_rfl;intro K hK;go_simp;go_at_call 87
    refine(HNY.out _).mono ?_;rintro e w8 ⟨rfl,k8⟩;have K8:=hid (HK.out.next1 k8);clear k8;refine hK _ _ ?_;clear hK K;iterate 2 (refine @wQ _ _ _ _ _ _ _ ?_ ?_;kernel_rfl;intro K hK;go_simp;refine hK _ _ ?_;clear hK K)
    rw [HTK.out];clear c0 c65 q1 z1 z2;go_wp2
    go_roundw
    case rel=>exact⟨i + 1,rfl,by simp,hid HLT.out,K8⟩
    case measure=>have:=HLT.out; simp [RowKit.intOf]; omega
   ·have hnl:¬ (i:Int) < (ln:Int):=by omega
    have HE:=hid (show str ([1] ++ p.pub ++ p.abv ++ Wm.enc ln ++ Tt.looseText (p.loose.take i)) = str (Tt.parentText p) by
     have hie:i = p.loose.length:=by have:=hi.out; have:=HLN.out; omega
     rw [Tt.parentText,← HST.out,if_pos rfl,hie,List.take_length,HLN.out])
    rw [HE.out];obtain⟨ss,hss⟩:∃ ss,ss = str (Tt.parentText p):=⟨_,rfl⟩;rw [← hss];have HSS:=hid hss;clear hlt hi hss HE;go_wp2;go_ret;exact⟨by rw [← HSS.out]; rfl,K1.out.next1 HK.out⟩
theorem info32 {cs:Array Value}(h:cs.size = 32):(Try.prog.info? 33).map (·.size) = some cs.size:=by rw [h]; kernel_rfl
theorem sum_len32 (l:List UInt8):(Sm.sum l).length = 32:=by
 rw [Sm.sum];exact wbytes_length (Sm.blocks (Sm.pad l) ((Sm.pad l).length / 64)).list 8 (Nat.le_refl _)
structure Tt.Fine (L:List Lf) (P:List Pr):Prop where
 n64:L.length≤64
 par:P.length = L.length - 1
 nms:∀ l∈L,0≤l.name∧l.name≤64
 len:∀ p∈P,p.loose.length≤1000
 lse:∀ p∈P,∀ y∈p.loose,0≤y∧y≤64
theorem hashSeg_len (L:List Lf)(P:List Pr)(k a m:Nat):(Tt.hashSeg L P (k + 1) a m).length = 32:=by
 unfold Tt.hashSeg
 split <;> exact sum_len32 _
theorem refsum_str (s:ByteArray)(l:List UInt8)(hs:s = str l)(hl:l.length≤20000)(w:World):Calls Try.prog 63 #[.string s] w fun e w'=>e = .returned (.agg (bcells (Sm.sum l)).toArray)∧Kept w.heap.size w.heap.size w w':=by
 subst hs;exact refsum_calls (str l) w (by rw [str_size]; exact hl)
theorem refhashat_calls (L:List Lf)(P:List Pr)(hF:Tt.Fine L P)(n:Nat)(hn:n = L.length)(hn1:1≤n):∀ (k a m:Nat) (p b:Int),m≤k→Bo.Seg n a m p b→∀ (lv pv:Value) (w:World),Lvs w lv L→Pts w pv P →
  Calls Try.prog 61 #[.agg #[lv,pv],.int .i64 ((Bo.root a m:Nat):Int)] w fun e w'=>e = .returned (.agg (bcells (Tt.hashSeg L P k a m)).toArray)∧Kept w.heap.size w.heap.size w w':=by
 intro k
 induction k with
 | zero=>
  intro a m p b h1 h2;have:=(h2.size hn1).1
  omega
 | succ k ih=>
  intro a m p b hmk hseg lv pv w hL hP;obtain⟨hm1,ham⟩:=hseg.size hn1;have h64:n≤64:=by rw [hn]; exact hF.n64
  obtain⟨lad,lg,lo,lc,rfl,hlc,_⟩:=hL;have hP0:=hP;obtain⟨pad,pg,po,pc,rfl,hpc,_⟩:=hP;obtain⟨ln,hln⟩:∃ ln,ln = L.length:=⟨_,rfl⟩;obtain⟨pn,hpn⟩:∃ pn,pn = P.length:=⟨_,rfl⟩;have hL0:Lvs w (.slice lad L.length lc) L:=⟨lad,lg,lo,lc,rfl,hlc,by assumption⟩
  by_cases h1:m = 1
  ·subst h1
   have ha:a < L.length:=by omega
   obtain⟨rfl,hg,hok,hr⟩:=hlc a ha;have hget:L.getD a Lf.zero = L[a]:=by rw [List.getD_eq_getElem?_getD,List.getElem?_eq_getElem ha]; rfl
   obtain⟨hnm0,hnm1⟩:=hF.nms _ (List.getElem_mem ha);rw [Tt.hashSeg_one,hget];have HRL:=hid (fun u=>refleaf_calls L[a] hok hnm0 hnm1 u)
   have hlen:=Tt.leafText_length hok;have hcl:=Lf.cells_length hok;obtain⟨ct,hct⟩:∃ ct,ct = L[a].cells:=⟨_,rfl⟩;rw [← hct] at HRL hr hcl;obtain⟨lt,hlt⟩:∃ lt,lt = Tt.leafText L[a]:=⟨_,rfl⟩;rw [← hlt] at HRL hlen ⊢;obtain⟨sl,hsl⟩:∃ sl,sl = str lt:=⟨_,rfl⟩;rw [← hsl] at HRL;have q0:¬ 9223372036854775807 < 4 + sl.size:=by rw [hsl,str_size]; omega
   have HSM:=hid (fun u=>refsum_str (⟨#[108,101,97,102]⟩ ++ sl) (Tt.leafB ++ lt) (by rw [hsl,← str_append]; rfl) (by rw [List.length_append]; show 4 + _≤_; omega) u)
   have hcs:(bcells (Sm.sum (Tt.leafB ++ lt))).toArray.size = 32:=by rw [List.size_toArray,bcells_length,sum_len32]
   have hall:=bcells_all (Sm.sum (Tt.leafB ++ lt));obtain⟨cu,hcu⟩:∃ cu,cu = (bcells (Sm.sum (Tt.leafB ++ lt))).toArray:=⟨_,rfl⟩;rw [← hcu] at HSM hcs hall ⊢;have HCS:=hid hcs;have HALL:=hid hall;have hal:(a:Int) < (ln:Int):=by omega
   have ha0:¬ (a:Int) < 0:=by omega
   obtain⟨x,hx⟩:∃ x:Int,x = ((Bo.root a 1:Nat):Int):=⟨_,rfl⟩;have hx2:x = 2 * (a:Int):=by rw [hx,Bo.root_one]; omega
   rw [← hx];have HX:=hid hx2;have HRM:=hid (show x.tmod 2 = 0 by rw [hx2,Int.tmod_eq_emod_of_nonneg (by omega)]; omega)
   have HQU:=hid (show IntKind.i64.wrap (x.tdiv 2) = (a:Int) by rw [show x.tdiv 2 = (a:Int) by rw [hx2,Int.tdiv_eq_ediv_of_nonneg (by omega)]; omega,wrap_small _ (by omega) (by omega)])
   have HWR:=hid (show IntKind.i64.wrap (x.tmod 2) = 0 by rw [show x.tmod 2 = 0 by rw [hx2,Int.tmod_eq_emod_of_nonneg (by omega)]; omega]; rfl)
   have HINF:=hid (show(Try.prog.info? 36).map (·.size) = some ct.length by have:=leafInfo (Lf.size hok); rw [hct]; simpa using this)
   have HG:=hid hg;have HR:=hid hr;rw [← hln,← hpn];clear ih hmk hseg hm1 ham hlc hL0 hP0 hpc hget hnm0 hnm1 hok hlen hcl hct hlt hsl hcs hall hcu hx hx2 hg hr hln hpn ha h64 hn hn1 hF;have k1:=kA w (.cells #[.slice (some ⟨lg,lo,none⟩) ln lc,.slice pad pn pc] 27)
   have t1:=heap_new w (.cells #[.slice (some ⟨lg,lo,none⟩) ln lc,.slice pad pn pc] 27)
   have s1:(w.alloc (.cells #[.slice (some ⟨lg,lo,none⟩) ln lc,.slice pad pn pc] 27)).heap.size = w.heap.size + 1:=by simp
   go_enter Try.func61,Try.ntmps61
   go_upto_region 1 with fail
   rw [zeros32_eq];generalize w.alloc (.cells #[.slice (some ⟨lg,lo,none⟩) ln lc,.slice pad pn pc] 27) = wa at k1 t1 s1 ⊢
   have k2:=kA wa (.cells zeros32 33)
   have r2:=heap_new wa (.cells zeros32 33)
   have t2:=rk t1 k2;generalize wa.alloc (.cells zeros32 33) = w1 at k2 r2 t2 ⊢
   have K1:=hid (k1.next1 k2);rw [s1] at r2
   (try rw [s1])
   obtain⟨tb,htb⟩:∃ tb,tb = w.heap.size:=⟨_,rfl⟩;obtain⟨rb,hrb⟩:∃ rb,rb = w.heap.size + 1:=⟨_,rfl⟩;rw [← hrb] at r2
   (try rw [← hrb])
   rw [← htb] at t2
   (try rw [← htb])
   have HTR:=hid (show tb≠rb by omega)
   have HRB:=hid (show ¬ rb < w.heap.size by omega)
   have T1:=hid t2;have R1:=hid r2;clear k1 t1 s1 k2 r2 t2 htb hrb;refine wp_region_lit ?_;iterate 2 (refine @wQ _ _ _ _ _ _ _ ?_ ?_;kernel_rfl;intro K hK;go_simp;refine hK _ _ ?_;clear hK K)
   (try rw [HWR.out])
   (try rw [HRM.out])
   refine @wQ _ _ _ _ _ _ _ ?_ ?_;kernel_rfl;intro K hK;go_simp;refine hK _ _ ?_;clear hK K;have t0:=two_cell0 T1.out;have HLD:=hid (run_loadVar_mid w1 lg (lo + a * 97) 36 ct _ (rangeAt_kept K1.out HR.out HG.out (Nat.ne_of_lt HG.out)) Try.underlying36 rfl HINF.out)
   go_upto_region 2 with fail
   refine wp_region_lit ?_;iterate 4 (refine @wQ _ _ _ _ _ _ _ ?_ ?_;kernel_rfl;intro K hK;go_simp;refine hK _ _ ?_;clear hK K)
   rw [HQU.out];refine @wQ _ _ _ _ _ _ _ ?_ ?_;kernel_rfl;intro K hK;go_simp;refine hK _ _ ?_;clear hK K;refine @wpList_load_known _ _ _ _ _ _ _ ?_ 36 (.tmp 13) rfl (lg) (lo + a * 97) rfl (.agg ct.toArray) (HLD.out) ?_;kernel_rfl
   simp only [Act.put,sA,sB,sC];refine @wQ _ _ _ _ _ _ _ ?_ ?_;kernel_rfl;intro K hK;go_simp;go_at_call 77
   refine(HRL.out _).mono ?_;rintro e w2 ⟨rfl,k2⟩;refine hK _ _ ?_;clear hK K;refine @wQ _ _ _ _ _ _ _ ?_ ?_;kernel_rfl;intro K hK;go_simp;refine hK _ _ ?_;clear hK K;refine @wQ _ _ _ _ _ _ _ ?_ ?_;kernel_rfl;intro K hK;go_simp;go_at_call 63
   refine(HSM.out _).mono ?_;rintro e w3 ⟨rfl,k3⟩;refine hK _ _ ?_;clear hK K;have K3:=hid ((K1.out.next1 k2).next1 k3);have r2:=(k2.block rb (lt_of_block R1.out) (Nat.ne_of_lt (lt_of_block R1.out))).trans R1.out;have R3:=hid (rk r2 k3);clear k2 k3 r2;refine wpList_store_row rfl 33 _ _ rfl (rb) cu rfl rfl 33 zeros32 R3.out (info32 HCS.out) (by rw [HCS.out]; rfl) HALL.out ?_
   simp only [Act.put];have R4:=setRow_heap w3 rb _ cu _ _ R3.out;have K4:=hid (K3.out.grown (grown_setRow w3 rb cu) K3.out.size (fun k e=>by cases e; exact Nat.le_of_not_lt HRB.out))
   generalize w3.setRow rb cu = w4 at R4 K4 ⊢;go_wp2;refine bodyPost_ret (results_cell_row rfl _ _ rb 33 _ (0,0) _ rfl R4 Try.underlying33 rfl (info32 HCS.out)) rfl ?_
   exact⟨rfl,K4.out⟩
  ·have h2:2≤m:=by omega
   have hh1:=Bo.half_pos m;have hh2:=Bo.half_lt h2;have hrt:=Bo.root_two (a:=a) h2;obtain⟨j,hj⟩:∃ j,j = Bo.root a m / 2:=⟨_,rfl⟩;have hxj:Bo.root a m = 2 * j + 1:=by omega
   have hjP:j < P.length:=by rw [hF.par]; omega
   obtain⟨rfl,hg,hok,sl,hr,hnums⟩:=hpc j hjP;have hget:P.getD (Bo.root a m / 2) Pr.zero = P[j]:=by rw [← hj,List.getD_eq_getElem?_getD,List.getElem?_eq_getElem hjP]; rfl
   have hlse:=hF.lse _ (List.getElem_mem hjP);have hl9:=hF.len _ (List.getElem_mem hjP);obtain⟨k',hk'⟩:∃ k',k = k' + 1:=⟨k - 1,by omega⟩
   have hs1:(Tt.hashSeg L P k a (Bo.half m)).length = 32:=by rw [hk']; exact hashSeg_len L P k' _ _
   have hs2:(Tt.hashSeg L P k (a + Bo.half m) (m - Bo.half m)).length = 32:=by rw [hk']; exact hashSeg_len L P k' _ _
   obtain⟨eside,_⟩:(Bo.Left n (Bo.root a m) = Bo.root a (Bo.half m)∧Bo.Right n (Bo.root a m) = Bo.root (a + Bo.half m) (m - Bo.half m))∧True:=⟨(Bo.say_sides (hseg.inn hn1) h64 (hseg.part hn1 h64)).2 h1,trivial⟩;have HLE:=hid (fun u=>rleft_calls (n:Int) ((Bo.root a m:Nat):Int) u)
   have HRI:=hid (fun u=>rright_calls (n:Int) ((Bo.root a m:Nat):Int) u)
   rw [eside.1] at HLE;rw [eside.2] at HRI;have HH1:=hid (fun(u:World) (kk:Kept w.heap.size w.heap.size w u)=>ih a (Bo.half m) _ _ (by omega) (hseg.left h2) _ _ u (hL0.kept kk) (hP0.kept kk))
   have HH2:=hid (fun(u:World) (kk:Kept w.heap.size w.heap.size w u)=>ih (a + Bo.half m) (m - Bo.half m) _ _ (by omega) (hseg.right h2) _ _ u (hL0.kept kk) (hP0.kept kk))
   rw [Tt.hashSeg_two L P k a m h2,hget];have hplen:=Tt.parentText_length hok hl9;have HPT:=hid (fun(u:World) (kk:Kept w.heap.size w.heap.size w u)=>refparent_calls P[j] hok sl u (hnums.kept kk) hl9 hlse)
   have HINF:=hid (show(Try.prog.info? 62).map (·.size) = some (P[j].cells sl).length by have:=parentInfo (Pr.size hok sl); simpa using this)
   obtain⟨h1x,hh1x⟩:∃ y,y = Tt.hashSeg L P k a (Bo.half m):=⟨_,rfl⟩;obtain⟨h2x,hh2x⟩:∃ y,y = Tt.hashSeg L P k (a + Bo.half m) (m - Bo.half m):=⟨_,rfl⟩;rw [← hh1x] at HH1 hs1 ⊢;rw [← hh2x] at HH2 hs2 ⊢;have HT1:=hid (fun u=>text_calls8 h1x hs1 u)
   have HT2:=hid (fun u=>text_calls8 h2x hs2 u)
   obtain⟨ct,hct⟩:∃ ct,ct = P[j].cells sl:=⟨_,rfl⟩;rw [← hct] at HPT hr HINF;obtain⟨pt,hpt⟩:∃ pt,pt = Tt.parentText P[j]:=⟨_,rfl⟩;rw [← hpt] at HPT hplen ⊢;obtain⟨sp,hsp⟩:∃ sp,sp = str pt:=⟨_,rfl⟩;obtain⟨s1x,hs1x⟩:∃ s,s = str h1x:=⟨_,rfl⟩;obtain⟨s2x,hs2x⟩:∃ s,s = str h2x:=⟨_,rfl⟩;rw [← hsp] at HPT;rw [← hs1x] at HT1;rw [← hs2x] at HT2;have z1:sp.size≤10000:=by rw [hsp,str_size]; exact hplen
   have z2:s1x.size = 32:=by rw [hs1x,str_size]; exact hs1
   have z3:s2x.size = 32:=by rw [hs2x,str_size]; exact hs2
   have q0:¬ 9223372036854775807 < 4 + sp.size:=by omega
   have q1:¬ 9223372036854775807 < 4 + sp.size + s1x.size:=by omega
   have q2:¬ 9223372036854775807 < 4 + sp.size + s1x.size + s2x.size:=by omega
   have HSM:=hid (fun u=>refsum_str (⟨#[110,111,100,101]⟩ ++ sp ++ s1x ++ s2x) (Tt.nodeB ++ pt ++ h1x ++ h2x) (by rw [hsp,hs1x,hs2x,← str_append,← str_append,← str_append]; rfl) (by simp only [List.length_append,hs1,hs2]; show 4 + _ + _ + _≤_; omega) u)
   have hcs:(bcells (Sm.sum (Tt.nodeB ++ pt ++ h1x ++ h2x))).toArray.size = 32:=by rw [List.size_toArray,bcells_length,sum_len32]
   have hall:=bcells_all (Sm.sum (Tt.nodeB ++ pt ++ h1x ++ h2x));obtain⟨cu,hcu⟩:∃ cu,cu = (bcells (Sm.sum (Tt.nodeB ++ pt ++ h1x ++ h2x))).toArray:=⟨_,rfl⟩;rw [← hcu] at HSM hcs hall ⊢;have HCS:=hid hcs;have HALL:=hid hall;obtain⟨d1,hd1⟩:∃ d,d = (bcells h1x).toArray:=⟨_,rfl⟩;obtain⟨d2,hd2⟩:∃ d,d = (bcells h2x).toArray:=⟨_,rfl⟩;rw [← hd1] at HH1 HT1;rw [← hd2] at HH2 HT2;obtain⟨y1,hy1⟩:∃ y:Int,y = ((Bo.root a (Bo.half m):Nat):Int):=⟨_,rfl⟩;obtain⟨y2,hy2⟩:∃ y:Int,y = ((Bo.root (a + Bo.half m) (m - Bo.half m):Nat):Int):=⟨_,rfl⟩;rw [← hy1] at HLE HH1;rw [← hy2] at HRI HH2;obtain⟨x,hx⟩:∃ x:Int,x = ((Bo.root a m:Nat):Int):=⟨_,rfl⟩;rw [← hx] at HLE HRI ⊢;have hx2:x = 2 * (j:Int) + 1:=by rw [hx,hxj]; omega
   have HX:=hid hx2;have HQU:=hid (show IntKind.i64.wrap (x.tdiv 2) = (j:Int) by rw [show x.tdiv 2 = (j:Int) by rw [hx2,Int.tdiv_eq_ediv_of_nonneg (by omega)]; omega,wrap_small _ (by omega) (by omega)])
   have HRM:=hid (show x.tmod 2 = 1 by rw [hx2,Int.tmod_eq_emod_of_nonneg (by omega)]; omega)
   have HWR:=hid (show IntKind.i64.wrap (x.tmod 2) = 1 by rw [show x.tmod 2 = 1 by rw [hx2,Int.tmod_eq_emod_of_nonneg (by omega)]; omega]; rfl)
   have hjl:(j:Int) < (pn:Int):=by omega
   have hj0:¬ (j:Int) < 0:=by omega
   have hnl:n = ln:=by omega
   rw [hnl] at HLE HRI;rw [← hln,← hpn] at HH1 HH2;have HG:=hid hg;have HR:=hid hr;rw [← hln,← hpn];clear ih hmk hseg hm1 ham hlc hL0 hP0 hpc hget hok hlse hl9 hs1 hs2 eside hplen hct hpt hsp hs1x hs2x z1 z2 z3 hcs hall hcu hd1 hd2 hy1 hy2 hx hx2 hg hr hnums hh1 hh2 hrt hj hxj hjP hh1x hh2x hk' h1 h2 hpn hln h64 hnl hn hn1 hF;have k1:=kA w (.cells #[.slice lad ln lc,.slice (some ⟨pg,po,none⟩) pn pc] 27)
   have t1:=heap_new w (.cells #[.slice lad ln lc,.slice (some ⟨pg,po,none⟩) pn pc] 27)
   have s1:(w.alloc (.cells #[.slice lad ln lc,.slice (some ⟨pg,po,none⟩) pn pc] 27)).heap.size = w.heap.size + 1:=by simp
   go_enter Try.func61,Try.ntmps61
   go_upto_region 1 with fail
   rw [zeros32_eq];generalize w.alloc (.cells #[.slice lad ln lc,.slice (some ⟨pg,po,none⟩) pn pc] 27) = wa at k1 t1 s1 ⊢
   have k2:=kA wa (.cells zeros32 33)
   have r2:=heap_new wa (.cells zeros32 33)
   have t2:=rk t1 k2;generalize wa.alloc (.cells zeros32 33) = w1 at k2 r2 t2 ⊢
   have K1:=hid (k1.next1 k2);rw [s1] at r2
   (try rw [s1])
   obtain⟨tb,htb⟩:∃ tb,tb = w.heap.size:=⟨_,rfl⟩;obtain⟨rb,hrb⟩:∃ rb,rb = w.heap.size + 1:=⟨_,rfl⟩;rw [← hrb] at r2
   (try rw [← hrb])
   rw [← htb] at t2
   (try rw [← htb])
   have HTR:=hid (show tb≠rb by omega)
   have HRB:=hid (show ¬ rb < w.heap.size by omega)
   have T1:=hid t2;have R1:=hid r2;clear k1 t1 s1 k2 r2 t2 htb hrb;refine wp_region_lit ?_;iterate 2 (refine @wQ _ _ _ _ _ _ _ ?_ ?_;kernel_rfl;intro K hK;go_simp;refine hK _ _ ?_;clear hK K)
   (try rw [HWR.out])
   (try rw [HRM.out])
   refine @wQ _ _ _ _ _ _ _ ?_ ?_;kernel_rfl;intro K hK;go_simp;refine hK _ _ ?_;clear hK K;have t0:=two_cell0 T1.out
   go_upto_region 3 with fail
   refine wp_region_lit ?_;iterate 4 (refine @wQ _ _ _ _ _ _ _ ?_ ?_;kernel_rfl;intro K hK;go_simp;refine hK _ _ ?_;clear hK K)
   clear t0
   go_upto_region 4 with fail
   refine wp_region_noPanic ?_;obtain⟨wd,hwd⟩:∃ wd,wd = w1.drew:=⟨_,rfl⟩;have hkd:Kept w1.heap.size w1.heap.size w1 wd:=by rw [hwd]; exact(Kept.refl _ _ _).drew
   have HT:=hid (fun(u:World) (k:Kept w1.heap.size w1.heap.size w1 u)=>(k.block tb (lt_of_block T1.out) (Nat.ne_of_lt (lt_of_block T1.out))).trans T1.out)
   have HLT:=hid (fun(u:World) (k:Kept w1.heap.size w1.heap.size w1 u)=>run_loadVar_row u tb 27 27 _ (0,0) _ (HT.out u k) Try.underlying27 rfl treeInfo)
   have HLP:=hid (fun(u:World) (k:Kept w1.heap.size w1.heap.size w1 u)=>load_slice (d:=.int .u8) (two_cell1 (HT.out u k)) (.inr rfl) rfl)
   have hwr:=rangeAt_kept K1.out HR.out HG.out (Nat.ne_of_lt HG.out);have hg1:=Nat.lt_of_lt_of_le HG.out K1.out.size;have HLD:=hid (fun(u:World) (k:Kept w1.heap.size w1.heap.size w1 u)=>rangeAt_kept k hwr hg1 (Nat.ne_of_lt hg1))
   clear hwr hg1;refine wp_region_heldTo 23 (S:=fun w'=>Kept w1.heap.size w1.heap.size w1 w') (by kernel_rfl) (by rw [← hwd]; exact hkd) (fun hH=>?_)
   rw [← hwd] at hH ⊢;clear hwd;refine heldTo_take (i:=0) 21 (.pointer (some ⟨tb,1,none⟩)) rfl rfl (by kernel_rfl) (by kernel_rfl) (by kernel_rfl) (by kernel_rfl) (fun _ _ _ h=>h) (.inl ⟨by kernel_rfl,fun w9 _=>by go_simp; first | done | rfl⟩) hH ?_
   simp only [sA,sB,sC];refine heldTo_take (i:=1) 22 (.slice (some ⟨pg,po,none⟩) pn pc) rfl rfl (by kernel_rfl) (by kernel_rfl) (by kernel_rfl) (by kernel_rfl) (fun _ _ _ h=>h) (yieldsIf_load_known (by kernel_rfl) 25 _ rfl (tb) (1) rfl (.slice (some ⟨pg,po,none⟩) pn pc) (HLP.out)) hH ?_
   simp only [sA,sB,sC];refine heldTo_take (i:=2) 23 (.int .i64 x) rfl rfl (by kernel_rfl) (by kernel_rfl) (by kernel_rfl) (by kernel_rfl) (fun _ _ _ h=>h) (.inl ⟨by kernel_rfl,fun w9 _=>by go_simp; first | done | rfl⟩) hH ?_
   simp only [sA,sB,sC];refine heldTo_take (i:=3) 24 (.int .i64 (j:Int)) rfl rfl (by kernel_rfl) (by kernel_rfl) (by kernel_rfl) (by kernel_rfl) (fun _ _ _ h=>h) (.inl ⟨by kernel_rfl,fun w9 _=>by go_simp; first | rw [HQU.out] | done⟩) hH ?_
   simp only [sA,sB,sC];refine heldTo_take (i:=4) 25 (.pointer (some ⟨pg,po + j * 66,none⟩)) rfl rfl (by kernel_rfl) (by kernel_rfl) (by kernel_rfl) (by kernel_rfl) (fun _ _ _ h=>h) (.inl ⟨by kernel_rfl,fun w9 _=>by go_simp; first | done | rfl⟩) hH ?_
   simp only [sA,sB,sC];refine heldTo_take (i:=5) 26 (.agg ct.toArray) rfl rfl (by kernel_rfl) (by kernel_rfl) (by kernel_rfl) (by kernel_rfl) (fun _ _ _ h=>h) (yieldsIf_load_mid (by kernel_rfl) 62 _ rfl (pg) (po + j * 66) rfl ct _ HLD.out Try.underlying62 rfl HINF.out) hH ?_
   simp only [sA,sB,sC];refine heldTo_take (i:=8) 29 (.agg #[.slice lad ln lc,.slice (some ⟨pg,po,none⟩) pn pc]) rfl rfl (by kernel_rfl) (by kernel_rfl) (by kernel_rfl) (by kernel_rfl) (fun _ _ _ h=>h) (yieldsIf_load_known (by kernel_rfl) 27 _ rfl (tb) (0) rfl (.agg #[.slice lad ln lc,.slice (some ⟨pg,po,none⟩) pn pc]) (HLT.out)) hH ?_
   simp only [sA,sB,sC];refine heldTo_take (i:=9) 30 (.int .i64 (ln:Int)) rfl rfl (by kernel_rfl) (by kernel_rfl) (by kernel_rfl) (by kernel_rfl) (fun _ _ _ h=>h) (.inl ⟨by kernel_rfl,fun w9 _=>by go_simp; first | done | rfl⟩) hH ?_
   simp only [sA,sB,sC];refine heldTo_take (i:=10) 31 (.int .i64 x) rfl rfl (by kernel_rfl) (by kernel_rfl) (by kernel_rfl) (by kernel_rfl) (fun _ _ _ h=>h) (.inl ⟨by kernel_rfl,fun w9 _=>by go_simp; first | done | rfl⟩) hH ?_
   simp only [sA,sB,sC];refine heldTo_take (i:=15) 36 (.agg #[.slice lad ln lc,.slice (some ⟨pg,po,none⟩) pn pc]) rfl rfl (by kernel_rfl) (by kernel_rfl) (by kernel_rfl) (by kernel_rfl) (fun _ _ _ h=>h) (yieldsIf_load_known (by kernel_rfl) 27 _ rfl (tb) (0) rfl (.agg #[.slice lad ln lc,.slice (some ⟨pg,po,none⟩) pn pc]) (HLT.out)) hH ?_
   simp only [sA,sB,sC];refine heldTo_take (i:=16) 37 (.int .i64 (ln:Int)) rfl rfl (by kernel_rfl) (by kernel_rfl) (by kernel_rfl) (by kernel_rfl) (fun _ _ _ h=>h) (.inl ⟨by kernel_rfl,fun w9 _=>by go_simp; first | done | rfl⟩) hH ?_
   simp only [sA,sB,sC];refine heldTo_take (i:=17) 38 (.int .i64 x) rfl rfl (by kernel_rfl) (by kernel_rfl) (by kernel_rfl) (by kernel_rfl) (fun _ _ _ h=>h) (.inl ⟨by kernel_rfl,fun w9 _=>by go_simp; first | done | rfl⟩) hH ?_
   simp only [sA,sB,sC];refine heldTo_one (i:=6) (by kernel_rfl) rfl (fun K hK=>?_)
   rw [if_pos (by rfl)]
   go_simp
   go_wp2_with (go_at_call 78; refine(HPT.out _ (K1.out.next1 hH)).mono ?_; rintro e w2 ⟨rfl,kw2⟩)
   have K2:Kept w1.heap.size w1.heap.size w1 w2:=hH.next1 kw2;refine hK.out _ _ K2 (fun hH=>?_)
   clear hK K;refine heldTo_take (i:=7) 28 (.string (⟨#[110,111,100,101]⟩ ++ sp)) rfl rfl (by kernel_rfl) (by kernel_rfl) (by kernel_rfl) (by kernel_rfl) (fun _ _ _ h=>h) (.inl ⟨by kernel_rfl,fun w9 _=>by go_simp; first | done | rfl⟩) hH ?_
   simp only [sA,sB,sC];refine heldTo_one (i:=11) (by kernel_rfl) rfl (fun K hK=>?_)
   rw [if_pos (by rfl)]
   go_simp
   go_wp2_with (go_at_call 79; refine(HLE.out _).mono ?_; rintro e w3 ⟨rfl,hw3⟩; subst w3)
   have K3:=K2;refine hK.out _ _ K3 (fun hH=>?_)
   clear hK K;refine heldTo_one (i:=12) (by kernel_rfl) rfl (fun K hK=>?_)
   rw [if_pos (by rfl)]
   go_simp
   go_wp2_with (go_at_call 61; refine(HH1.out _ (K1.out.next1 K3)).mono ?_; rintro e w4 ⟨rfl,kw4⟩)
   have K4:Kept w1.heap.size w1.heap.size w1 w4:=K3.next1 kw4;refine hK.out _ _ K4 (fun hH=>?_)
   clear hK K;refine heldTo_one (i:=13) (by kernel_rfl) rfl (fun K hK=>?_)
   rw [if_pos (by rfl)]
   go_simp
   go_wp2_with (go_at_call 64; refine(HT1.out _).mono ?_; rintro e w5 ⟨rfl,kw5⟩)
   have K5:Kept w1.heap.size w1.heap.size w1 w5:=K4.next1 kw5;refine hK.out _ _ K5 (fun hH=>?_)
   clear hK K;refine heldTo_take (i:=14) 35 (.string (⟨#[110,111,100,101]⟩ ++ sp ++ s1x)) rfl rfl (by kernel_rfl) (by kernel_rfl) (by kernel_rfl) (by kernel_rfl) (fun _ _ _ h=>h) (.inl ⟨by kernel_rfl,fun w9 _=>by go_simp; first | done | rfl⟩) hH ?_
   simp only [sA,sB,sC];refine heldTo_one (i:=18) (by kernel_rfl) rfl (fun K hK=>?_)
   rw [if_pos (by rfl)]
   go_simp
   go_wp2_with (go_at_call 80; refine(HRI.out _).mono ?_; rintro e w6 ⟨rfl,hw6⟩; subst w6)
   have K6:=K5;refine hK.out _ _ K6 (fun hH=>?_)
   clear hK K;refine heldTo_one (i:=19) (by kernel_rfl) rfl (fun K hK=>?_)
   rw [if_pos (by rfl)]
   go_simp
   go_wp2_with (go_at_call 61; refine(HH2.out _ (K1.out.next1 K6)).mono ?_; rintro e w7 ⟨rfl,kw7⟩)
   have K7:Kept w1.heap.size w1.heap.size w1 w7:=K6.next1 kw7;refine hK.out _ _ K7 (fun hH=>?_)
   clear hK K;refine heldTo_one (i:=20) (by kernel_rfl) rfl (fun K hK=>?_)
   rw [if_pos (by rfl)]
   go_simp
   go_wp2_with (go_at_call 64; refine(HT2.out _).mono ?_; rintro e w8 ⟨rfl,kw8⟩)
   have K8:Kept w1.heap.size w1.heap.size w1 w8:=K7.next1 kw8;refine hK.out _ _ K8 (fun hH=>?_)
   clear hK K;refine heldTo_take (i:=21) 42 (.string (⟨#[110,111,100,101]⟩ ++ sp ++ s1x ++ s2x)) rfl rfl (by kernel_rfl) (by kernel_rfl) (by kernel_rfl) (by kernel_rfl) (fun _ _ _ h=>h) (.inl ⟨by kernel_rfl,fun w9 _=>by go_simp; first | done | rfl⟩) hH ?_
   simp only [sA,sB,sC];refine heldTo_one (i:=22) (by kernel_rfl) rfl (fun K hK=>?_)
   rw [if_pos (by rfl)]
   go_simp
   go_wp2_with (go_at_call 63; refine(HSM.out _).mono ?_; rintro e w9 ⟨rfl,kw9⟩)
   have K9:Kept w1.heap.size w1.heap.size w1 w9:=K8.next1 kw9;refine hK.out _ _ K9 (fun hH=>?_)
   clear hK K;have R9:=(K9.block rb (lt_of_block R1.out) (Nat.ne_of_lt (lt_of_block R1.out))).trans R1.out;refine heldTo_last (by kernel_rfl) rfl (fun K hK=>?_)
   rw [if_pos (by rfl)]
   refine wp_store_row_none 33 _ _ rfl rfl rb cu rfl rfl 33 zeros32 R9 (info32 HCS.out) (by rw [HCS.out]; rfl) HALL.out ?_
   refine hK.out _ _ ?_;clear hK K;refine heldTo_done (by kernel_rfl) ?_ _
   refine NoPanic.normal ?_;have R10:=setRow_heap w9 rb _ cu _ _ R9;have K10:=hid ((K1.out.next1 K9).grown (grown_setRow w9 rb cu) (K1.out.next1 K9).size (fun k e=>by cases e; exact Nat.le_of_not_lt HRB.out))
   generalize w9.setRow rb cu = w10 at R10 K10 ⊢;clear hH q0 q1 q2;go_wp2;refine bodyPost_ret (results_cell_row rfl _ _ rb 33 _ (0,0) _ rfl R10 Try.underlying33 rfl (info32 HCS.out)) rfl ?_
   exact⟨rfl,K10.out⟩
theorem isleaf_yes (x:Int)(_h:IntKind.i64.wrap (x.tmod 2) = 0)(_h2:x.tmod 2 = 0)(w:World):Calls Try.prog 21 #[.int .i64 x] w fun e w'=>e = .returned (.bool true)∧w' = w:=by
 go_enter Try.func21,Try.ntmps21
 go_wp2;go_ret;exact⟨rfl,rfl⟩
theorem isleaf_no (x:Int)(_h:IntKind.i64.wrap (x.tmod 2) = 1)(_h2:x.tmod 2 = 1)(w:World):Calls Try.prog 21 #[.int .i64 x] w fun e w'=>e = .returned (.bool false)∧w' = w:=by
 go_enter Try.func21,Try.ntmps21
 go_wp2;go_ret;exact⟨rfl,rfl⟩
namespace Tt
def noneB:List UInt8:=[110,111,110,101]
def treeHash (L:List Lf)(P:List Pr):List UInt8:=if L.length = 0 then Sm.sum noneB else hashSeg L P L.length 0 L.length
theorem loose_in (L:List Lf)(b:Int):∀ (l:List Int) (f:Int),looseOk L b f l = true→∀ y∈l,f≤y∧y < b
 | [],_,_=>fun _ h=>nomatch h
 | x :: xs,f,h=>by
  unfold looseOk at h;simp only [Bool.and_eq_true,decide_eq_true_eq] at h;obtain⟨h1,h2,_,h3⟩:=h;intro y hy
  rcases List.mem_cons.1 hy with e | e
  ·omega
  ·have:=loose_in L b xs (x + 1) h3 y e; omega
theorem parents_in {L:List Lf}(hn:L.length≤64):∀ (P:List Pr) (i:Nat),parentsOk L i P = true→∀ p∈P,∀ y∈p.loose,0≤y∧y≤64
 | [],_,_=>fun _ h=>nomatch h
 | q :: P,i,h=>by
  unfold parentsOk at h;rw [Bool.and_eq_true] at h;intro p hp
  rcases List.mem_cons.1 hp with e | e
  ·have h1:=h.1
   unfold parentOk at h1;rw [e]
   split at h1
   ·have hb:=Bo.bounds L.length ((2 * i + 1:Nat):Int)
    intro y hy;have:=loose_in L _ _ _ h1 y hy
    omega
   ·simp only [Bool.and_eq_true,beq_iff_eq] at h1
    rw [List.length_eq_zero_iff.1 h1.2.2];exact fun _ h=>nomatch h
  ·exact parents_in hn P (i + 1) h.2 p e
theorem leaves_in:∀ (L:List Lf) (M:List Int),leavesOk M L = true→∀ l∈L,0≤l.name∧l.name≤64
 | [],_,_=>fun _ h=>nomatch h
 | l :: L,M,h=>by
  rw [leavesOk] at h;intro x hx
  by_cases hs:l.same Lf.zero = true
  ·rw [if_pos hs] at h
   rcases List.mem_cons.1 hx with e | e
   ·rw [e,Lf.same_iff.1 hs]
    exact⟨Int.le_refl _,by decide⟩
   ·exact leaves_in L M h x e
  ·rw [if_neg hs] at h
   simp only [Bool.and_eq_true,decide_eq_true_eq] at h;obtain⟨h1,h2,_,h4⟩:=h
   rcases List.mem_cons.1 hx with e | e
   ·rw [e]
    exact⟨by omega,h2⟩
   ·exact leaves_in L (l.name :: M) h4 x e
theorem fine_of {L:List Lf}{P:List Pr}(h:right L P = true):Fine L P:=by
 obtain⟨h1,h2,h3⟩:=right_parts h;have h4:=h;simp only [right,Bool.and_eq_true,decide_eq_true_eq] at h4;exact⟨h1,h2,leaves_in L [] h4.2.2.2.1,fun p hp=>Nat.le_trans (parents_loose h1 P 0 h3 p hp) (by decide),parents_in h1 P 0 h3⟩
end Tt
theorem rightornone8 (lv pv:Value)(L:List Lf)(P:List Pr)(w:World)(hL:Lvs w lv L)(hP:Pts w pv P)(hn:L.length≤1000)(hp:P.length≤1000)(hpl:∀ p∈P,p.loose.length≤1000)(hr:Tt.right L P = true):
  Calls Try.prog 18 #[.agg #[lv,pv]] w fun e w'=>e = .returned (.agg #[lv,pv])∧Kept w.heap.size w.heap.size w w':=by
 have HRR:=hid (fun(x:World) (k:Kept w.heap.size w.heap.size w x)=>right_calls8 lv pv L P x (hL.kept k) (hP.kept k) hn hp hpl)
 rw [hr] at HRR;obtain⟨lad,lc,rfl⟩:=hL.shape;obtain⟨pad,pc,rfl⟩:=hP.shape;obtain⟨ln,hln⟩:∃ ln,ln = L.length:=⟨_,rfl⟩;obtain⟨pn,hpn⟩:∃ pn,pn = P.length:=⟨_,rfl⟩;rw [← hln,← hpn] at HRR ⊢;clear hL hP hn hp hpl hr hln hpn;have k1:=kA w (.cells #[.slice lad ln lc,.slice pad pn pc] 27)
 have t1:=heap_new w (.cells #[.slice lad ln lc,.slice pad pn pc] 27)
 have s1:(w.alloc (.cells #[.slice lad ln lc,.slice pad pn pc] 27)).heap.size = w.heap.size + 1:=by simp
 go_enter Try.func18,Try.ntmps18
 go_upto_region 1 with fail
 generalize w.alloc (.cells #[.slice lad ln lc,.slice pad pn pc] 27) = wa at k1 t1 s1 ⊢
 have k3:=kA wa (.cells #[.slice none 0 0,.slice none 0 0] 27)
 have r3:=heap_new wa (.cells #[.slice none 0 0,.slice none 0 0] 27)
 have t3:=rk t1 k3;generalize wa.alloc (.cells #[.slice none 0 0,.slice none 0 0] 27) = w1 at k3 r3 t3 ⊢
 have K1:=hid (k1.next1 k3);rw [s1] at r3
 (try rw [s1])
 obtain⟨tb,htb⟩:∃ tb,tb = w.heap.size:=⟨_,rfl⟩;obtain⟨rb,hrb⟩:∃ rb,rb = w.heap.size + 1:=⟨_,rfl⟩;rw [← hrb] at r3
 (try rw [← hrb])
 rw [← htb] at t3
 (try rw [← htb])
 have HRB:=hid (show w.heap.size≤rb by omega)
 have T1:=hid t3;have R1:=hid r3;clear k1 t1 s1 k3 r3 t3 htb hrb;refine wp_region_lit ?_;refine @wpList_load_known _ _ _ _ _ _ _ ?_ 27 (.tmp 1) rfl (tb) (0) rfl (.agg #[.slice lad ln lc,.slice pad pn pc]) (run_loadVar_row w1 tb 27 27 _ (0,0) _ T1.out Try.underlying27 rfl treeInfo) ?_;kernel_rfl
 simp only [Act.put,sA,sB,sC];refine @wQ _ _ _ _ _ _ _ ?_ ?_;kernel_rfl;intro K hK;go_simp;go_at_call 11
 refine(HRR.out _ K1.out).mono ?_;rintro e w2 ⟨rfl,k2⟩;have K2:=hid (K1.out.next1 k2);have T2:=hid (rk T1.out k2);have R2:=hid (rk R1.out k2);clear k2;refine hK _ _ ?_;clear hK K;refine @wQ _ _ _ _ _ _ _ ?_ ?_;kernel_rfl;intro K hK;go_simp;refine hK _ _ ?_;clear hK K
 go_upto_region 3 with fail
 refine wp_region_lit ?_;refine @wpList_load_known _ _ _ _ _ _ _ ?_ 27 (.tmp 1) rfl (tb) (0) rfl (.agg #[.slice lad ln lc,.slice pad pn pc]) (run_loadVar_row w2 tb 27 27 _ (0,0) _ T2.out Try.underlying27 rfl treeInfo) ?_;kernel_rfl
 simp only [Act.put,sA,sB,sC];refine wpList_store_row rfl 27 _ _ rfl (rb) #[.slice lad ln lc,.slice pad pn pc] rfl rfl 27 #[.slice none 0 0,.slice none 0 0] R2.out treeInfo rfl (tree_all _ _ _ _ _ _) ?_
 simp only [Act.put];have R3:=setRow_heap w2 rb _ #[.slice lad ln lc,.slice pad pn pc] _ _ R2.out;have K3:=hid (K2.out.grown (grown_setRow w2 rb #[.slice lad ln lc,.slice pad pn pc]) K2.out.size (fun k e=>by cases e; exact HRB.out))
 generalize w2.setRow rb #[.slice lad ln lc,.slice pad pn pc] = w3 at R3 K3 ⊢;go_wp2;refine bodyPost_ret (results_cell_row rfl _ _ rb 27 _ (0,0) _ rfl R3 Try.underlying27 rfl treeInfo) rfl ?_
 exact⟨rfl,K3.out⟩
end Go.Proofs.Ytlpabcnhcbgfjaa
