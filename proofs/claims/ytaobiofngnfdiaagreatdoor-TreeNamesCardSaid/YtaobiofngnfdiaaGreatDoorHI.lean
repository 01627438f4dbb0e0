/-
 TreeText; TreePut; TreeHashMath; TreeRefText; TreeRefHash; TreeHashOf; TreeHash: several texts in one.
-/
import Derived.Test.YtaobiofngnfdiaaGreatDoorGX
import Derived.Test.YtaobiofngnfdiaaGreatDoorGV
import Derived.Test.YtaobiofngnfdiaaGreatDoorIC
import Derived.Test.YtaobiofngnfdiaaGreatDoorGB
import Derived.Test.YtaobiofngnfdiaaGreatDoorHK
import Derived.Test.YtaobiofngnfdiaaGreatDoorHeldEx
import Derived.Test.YtaobiofngnfdiaaGreatDoorGY
import Derived.Test.YtaobiofngnfdiaaGreatDoorGJ
import Derived.Test.YtaobiofngnfdiaaGreatDoorGA
import Derived.Test.YtaobiofngnfdiaaGreatDoorGC
import Derived.Test.YtaobiofngnfdiaaGreatDoorTreeRight
import Derived.Test.YtaobiofngnfdiaaGreatDoorTreeJoinMath
set_option maxRecDepth 100000
set_option maxHeartbeats 6400000
namespace Go.Proofs.YtaobiofngnfdiaaGreatDoor
open Go.RowKit Go.Lib
open List renaming setIfInBounds_toArray → sA, set_cons_zero → sB, set_cons_succ → sC
open BigFrame renaming wpList_want → wQ
namespace Tt
def leafText (l:Lf):List UInt8:=if 0 < l.name then [1] ++ Wm.enc l.name.toNat ++ l.pub ++ l.ver ++ l.abv else [0]
def looseText (l:List Int):List UInt8:=(l.map fun y=>Wm.enc y.toNat).flatten
def parentText (p:Pr):List UInt8:=if p.set then [1] ++ p.pub ++ p.abv ++ Wm.enc p.loose.length ++ looseText p.loose else [0]
theorem looseText_snoc (l:List Int)(y:Int):looseText (l ++ [y]) = looseText l ++ Wm.enc y.toNat:=by
 unfold looseText;rw [List.map_append,List.flatten_append];simp
theorem looseText_length:∀ l:List Int,(looseText l).length≤8 * l.length
 | []=>Nat.le_refl _
 | y :: l=>by
  have h1:=Wm.enc_length_le y.toNat;have h2:=looseText_length l;unfold looseText at h2 ⊢;rw [List.map_cons,List.flatten_cons,List.length_append,List.length_cons]
  omega
theorem leafText_length {l:Lf}(h:l.Ok):(leafText l).length≤200:=by
 unfold leafText;have h1:=Wm.enc_length_le l.name.toNat
 split
 ·simp only [List.length_append,List.length_singleton,h.1,h.2.1,h.2.2]
  omega
 ·simp
theorem parentText_length {p:Pr}(h:p.Ok)(hl:p.loose.length≤1000):(parentText p).length≤10000:=by
 unfold parentText;have h1:=Wm.enc_length_le p.loose.length;have h2:=looseText_length p.loose
 split
 ·simp only [List.length_append,List.length_singleton,h.1,h.2]
  omega
 ·simp
end Tt
section
variable {w:World} {b:Nat} {l:Lf} {t:TypeId}
theorem lf_name (h:w.heap[b]? = some (.cells l.cells.toArray t (0,0))):w.cell? ⟨b,0,none⟩ = some (.int .i64 l.name):=by
 rw [cell_of_row w b 0 _ _ _ h];exact l.at_name
theorem lf_part (h:w.heap[b]? = some (.cells l.cells.toArray t (0,0)))(o:Nat)(d:List UInt8)(_hd:d.length = 32)(he:l.cells.toArray.extract o (o + 32) = (bcells d).toArray):w.rangeAt b o (bcells d):=fun j v hj=>by
 rw [cell_of_row w b (o + j) _ _ _ h];have h2:(l.cells.toArray.extract o (o + 32))[j]? = some v:=by rw [he]; simpa using hj
 rw [Array.getElem?_extract] at h2
 split at h2
 ·exact h2
 ·cases h2
end
theorem putleaf_calls (w0:World)(base b:Nat)(s:List UInt8)(l:Lf)(hok:l.Ok)(h0:0≤l.name)(h64:l.name≤64)(w:World)(hU:Pu w0 base b s w)(hs:s.length≤90000):
  Calls Tryz.prog 61 #[.pointer (some ⟨b,0,none⟩),.agg l.cells.toArray] w fun e w'=>e = .returned (.tuple #[])∧Pu w0 base b (s ++ Tt.leafText l) w':=by
 obtain⟨nn,hnn⟩:∃ nn:Nat,l.name = (nn:Int):=⟨l.name.toNat,by omega⟩
 have hnn9:nn≤64:=by omega
 have HOK:=hid hok;have HNN:=hid hnn;have HS:=hid hs;have HIB:=hid (isblank_calls l);have HSZ:=hid (Lf.size hok);obtain⟨D,hD⟩:∃ D,D = l.cells.toArray:=⟨_,rfl⟩;rw [← hD] at HIB HSZ ⊢;have HDE:=hid hD;have HAL:=hid (show D.all (·.oneCell') = true by rw [hD]; exact l.all)
 clear hok hD h0 h64 hs
 go_enter Tryz.func61,Tryz.ntmps61
 go_upto_region 1 with fail
 have u1:=hU.kept (kA w (.cells D 37))
 have b1:=heap_new w (.cells D 37)
 have hlb:=Nat.lt_of_lt_of_le hU.wr.lt hU.wr.le;generalize w.alloc (.cells D 37) = w1 at u1 b1 ⊢
 obtain⟨lb,hlbe⟩:∃ lb,lb = w.heap.size:=⟨_,rfl⟩;rw [← hlbe] at b1 hlb
 (try rw [← hlbe])
 have HNE:=hid (show lb≠b by omega)
 have U1:Hid (Pu w1 base b s w1):=hid (Pu.start u1.wr u1.tab u1.pos);have B1:=hid b1;have HK0:=hid (fun(t:List UInt8) (x:World) (u:Pu w1 base b t x)=>(show Pu w0 base b t x from⟨u.wr,u.tab,u1.kp.trans u.kp,u1.fr.trans u.fr,u.pos⟩))
 clear hU u1 b1 hlbe hlb;have HBX:=hid (fun(t:List UInt8) (x:World) (u:Pu w1 base b t x)=>u.box B1.out HNE.out (by decide))
 have HLD:=hid (fun(t:List UInt8) (x:World) (u:Pu w1 base b t x)=>run_loadVar_row x lb 37 37 _ (0,0) _ (HBX.out t x u) Tryz.underlying37 rfl (leafInfo HSZ.out))
 by_cases hz:nn = 0
 ·have HZB:=hid (show(l.name == 0) = true by rw [HNN.out,hz]; rfl)
  rw [HZB.out] at HIB
  have HEQ:=hid (show s ++ [if false = true then 1 else 0] = s ++ Tt.leafText l by
   show s ++ [0] = _
   rw [Tt.leafText,if_neg (by rw [HNN.out]; omega)])
  clear hz;refine wp_region_lit ?_;refine @wQ _ _ _ _ _ _ _ ?_ ?_;kernel_rfl;intro K hK;go_simp;refine hK _ _ ?_;clear hK K;refine @wpList_load_known _ _ _ _ _ _ _ ?_ 37 (.tmp 3) rfl (lb) (0) rfl (.agg D) (HLD.out _ w1 U1.out) ?_;kernel_rfl
  simp only [Act.put,sA,sB,sC];refine @wQ _ _ _ _ _ _ _ ?_ ?_;kernel_rfl;intro K hK;go_simp;go_at_call 27
  refine(HIB.out _).mono ?_;rintro e w2 ⟨rfl,k2⟩;have U2:=hid (U1.out.kept k2);clear k2;refine hK _ _ ?_;clear hK K;refine @wQ _ _ _ _ _ _ _ ?_ ?_;kernel_rfl;intro K hK;go_simp;refine hK _ _ ?_;clear hK K;refine @wQ _ _ _ _ _ _ _ ?_ ?_;kernel_rfl;intro K hK;go_simp;go_at_call 89
  refine(U2.out.flag _ (by have:=HS.out; omega)).mono ?_
  rintro e w3 ⟨rfl,u3⟩;have U3:=hid u3;clear u3;refine hK _ _ ?_;clear hK K
  go_upto_region 2 with fail
  refine wp_region_lit ?_;refine @wpList_load_known _ _ _ _ _ _ _ ?_ 37 (.tmp 3) rfl (lb) (0) rfl (.agg D) (HLD.out _ w3 U3.out) ?_;kernel_rfl
  simp only [Act.put,sA,sB,sC];refine @wQ _ _ _ _ _ _ _ ?_ ?_;kernel_rfl;intro K hK;go_simp;go_at_call 27
  refine(HIB.out _).mono ?_;rintro e w4 ⟨rfl,k4⟩;have U4:=hid (U3.out.kept k4);clear k4;refine hK _ _ ?_;clear hK K;go_wp2;refine bodyPost_ret (results_none rfl _ _ _) rfl ?_;exact⟨rfl,HK0.out _ _ (by have:=U4.out; rw [HEQ.out] at this; exact this)⟩
 ·have HZB:=hid (show(l.name == 0) = false by rw [HNN.out,beq_eq_false_iff_ne]; omega)
  rw [HZB.out] at HIB
  have HEQ:=hid (show s ++ [if true = true then 1 else 0] ++ Wm.enc nn ++ l.pub ++ l.ver ++ l.abv = s ++ Tt.leafText l by
   show s ++ [1] ++ Wm.enc nn ++ l.pub ++ l.ver ++ l.abv = _;rw [Tt.leafText,if_pos (by rw [HNN.out]; omega),HNN.out,Int.toNat_natCast]
   simp only [List.append_assoc])
  have HLE:=hid (Wm.enc_length_le nn);have HLP:=hid (fun(t:List UInt8) (x:World) (u:Pu w1 base b t x)=>run_loadVar_mid x lb 1 35 (bcells l.pub) _ (lf_part (by rw [← HDE.out]; exact HBX.out t x u) 1 l.pub HOK.out.1 (Lf.part_pub HOK.out)) Tryz.underlying35 rfl (hashInfoT (by rw [bcells_length,HOK.out.1])))
  have HLV:=hid (fun(t:List UInt8) (x:World) (u:Pu w1 base b t x)=>run_loadVar_mid x lb 33 35 (bcells l.ver) _ (lf_part (by rw [← HDE.out]; exact HBX.out t x u) 33 l.ver HOK.out.2.1 (Lf.part_ver HOK.out)) Tryz.underlying35 rfl (hashInfoT (by rw [bcells_length,HOK.out.2.1])))
  have HLA:=hid (fun(t:List UInt8) (x:World) (u:Pu w1 base b t x)=>run_loadVar_mid x lb 65 35 (bcells l.abv) _ (lf_part (by rw [← HDE.out]; exact HBX.out t x u) 65 l.abv HOK.out.2.2 (Lf.part_abv HOK.out)) Tryz.underlying35 rfl (hashInfoT (by rw [bcells_length,HOK.out.2.2])))
  have HPN:=hid (fun(t:List UInt8) (x:World) (u:Pu w1 base b t x)=>show x.cell? ⟨lb,0,none⟩ = some (.int .i64 (nn:Int)) by rw [← HNN.out]; exact lf_name (by rw [← HDE.out]; exact HBX.out t x u))
  have HHP:=hid (fun(t:List UInt8) (x:World) (u:Pu w1 base b t x) (ht:t.length≤100000)=>u.hash l.pub HOK.out.1 ht)
  have HHV:=hid (fun(t:List UInt8) (x:World) (u:Pu w1 base b t x) (ht:t.length≤100000)=>u.hash l.ver HOK.out.2.1 ht)
  have HHA:=hid (fun(t:List UInt8) (x:World) (u:Pu w1 base b t x) (ht:t.length≤100000)=>u.hash l.abv HOK.out.2.2 ht)
  obtain⟨DP,hDP⟩:∃ D,D = (bcells l.pub).toArray:=⟨_,rfl⟩;obtain⟨DV,hDV⟩:∃ D,D = (bcells l.ver).toArray:=⟨_,rfl⟩;obtain⟨DA,hDA⟩:∃ D,D = (bcells l.abv).toArray:=⟨_,rfl⟩;rw [← hDP] at HLP HHP;rw [← hDV] at HLV HHV;rw [← hDA] at HLA HHA;clear hz hDP hDV hDA;refine wp_region_lit ?_;refine @wQ _ _ _ _ _ _ _ ?_ ?_;kernel_rfl;intro K hK;go_simp;refine hK _ _ ?_;clear hK K;refine @wpList_load_known _ _ _ _ _ _ _ ?_ 37 (.tmp 3) rfl (lb) (0) rfl (.agg D) (HLD.out _ w1 U1.out) ?_;kernel_rfl
  simp only [Act.put,sA,sB,sC];refine @wQ _ _ _ _ _ _ _ ?_ ?_;kernel_rfl;intro K hK;go_simp;go_at_call 27
  refine(HIB.out _).mono ?_;rintro e w2 ⟨rfl,k2⟩;have U2:=hid (U1.out.kept k2);clear k2;refine hK _ _ ?_;clear hK K;refine @wQ _ _ _ _ _ _ _ ?_ ?_;kernel_rfl;intro K hK;go_simp;refine hK _ _ ?_;clear hK K;refine @wQ _ _ _ _ _ _ _ ?_ ?_;kernel_rfl;intro K hK;go_simp;go_at_call 89
  refine(U2.out.flag _ (by have:=HS.out; omega)).mono ?_
  rintro e w3 ⟨rfl,u3⟩;have U3:=hid u3;clear u3;refine hK _ _ ?_;clear hK K
  go_upto_region 2 with fail
  refine wp_region_lit ?_;refine @wpList_load_known _ _ _ _ _ _ _ ?_ 37 (.tmp 3) rfl (lb) (0) rfl (.agg D) (HLD.out _ w3 U3.out) ?_;kernel_rfl
  simp only [Act.put,sA,sB,sC];refine @wQ _ _ _ _ _ _ _ ?_ ?_;kernel_rfl;intro K hK;go_simp;go_at_call 27
  refine(HIB.out _).mono ?_;rintro e w4 ⟨rfl,k4⟩;have U4:=hid (U3.out.kept k4);clear k4;refine hK _ _ ?_;clear hK K;have c0:=HPN.out _ _ U4.out
  go_upto_region 3 with fail
  refine wp_region_lit ?_;iterate 3 (refine @wQ _ _ _ _ _ _ _ ?_ ?_;kernel_rfl;intro K hK;go_simp;refine hK _ _ ?_;clear hK K)
  refine @wQ _ _ _ _ _ _ _ ?_ ?_;kernel_rfl;intro K hK;go_simp;go_at_call 90
  refine(U4.out.num nn (by omega) (by simp only [List.length_append,List.length_singleton]; have:=HS.out; omega)).mono ?_
  rintro e w5 ⟨rfl,u5⟩;have U5:=hid u5;clear u5 c0;refine hK _ _ ?_;clear hK K
  go_upto_region 4 with fail
  refine wp_region_lit ?_;iterate 2 (refine @wQ _ _ _ _ _ _ _ ?_ ?_;kernel_rfl;intro K hK;go_simp;refine hK _ _ ?_;clear hK K)
  refine @wpList_load_known _ _ _ _ _ _ _ ?_ 35 (.tmp 16) rfl (lb) (1) rfl (.agg DP) (HLP.out _ _ U5.out) ?_;kernel_rfl
  simp only [Act.put,sA,sB,sC];refine @wQ _ _ _ _ _ _ _ ?_ ?_;kernel_rfl;intro K hK;go_simp;go_at_call 64
  refine(HHP.out _ _ U5.out (by simp only [List.length_append,List.length_singleton]; have:=HS.out; have:=HLE.out; omega)).mono ?_
  rintro e w6 ⟨rfl,u6⟩;have U6:=hid u6;clear u6;refine hK _ _ ?_;clear hK K
  go_upto_region 5 with fail
  refine wp_region_lit ?_;iterate 2 (refine @wQ _ _ _ _ _ _ _ ?_ ?_;kernel_rfl;intro K hK;go_simp;refine hK _ _ ?_;clear hK K)
  refine @wpList_load_known _ _ _ _ _ _ _ ?_ 35 (.tmp 20) rfl (lb) (33) rfl (.agg DV) (HLV.out _ _ U6.out) ?_;kernel_rfl
  simp only [Act.put,sA,sB,sC];refine @wQ _ _ _ _ _ _ _ ?_ ?_;kernel_rfl;intro K hK;go_simp;go_at_call 64
  refine(HHV.out _ _ U6.out (by simp only [List.length_append,List.length_singleton]; have:=HS.out; have:=HLE.out; have:=HOK.out.1; omega)).mono ?_
  rintro e w7 ⟨rfl,u7⟩;have U7:=hid u7;clear u7;refine hK _ _ ?_;clear hK K
  go_upto_region 6 with fail
  refine wp_region_lit ?_;iterate 2 (refine @wQ _ _ _ _ _ _ _ ?_ ?_;kernel_rfl;intro K hK;go_simp;refine hK _ _ ?_;clear hK K)
  refine @wpList_load_known _ _ _ _ _ _ _ ?_ 35 (.tmp 24) rfl (lb) (65) rfl (.agg DA) (HLA.out _ _ U7.out) ?_;kernel_rfl
  simp only [Act.put,sA,sB,sC];refine @wQ _ _ _ _ _ _ _ ?_ ?_;kernel_rfl;intro K hK;go_simp;go_at_call 64
  refine(HHA.out _ _ U7.out (by simp only [List.length_append,List.length_singleton]; have:=HS.out; have:=HLE.out; have:=HOK.out.1; have:=HOK.out.2.1; omega)).mono ?_
  rintro e w8 ⟨rfl,u8⟩;have U8:=hid u8;clear u8;refine hK _ _ ?_;clear hK K;go_wp2;refine bodyPost_end (results_none rfl _ _ _) rfl ?_;exact⟨rfl,HK0.out _ _ (by have:=U8.out; rw [HEQ.out] at this; exact this)⟩
theorem putparent_calls (w0:World)(base b:Nat)(s:List UInt8)(p:Pr)(hok:p.Ok)(sl:Value)(w:World)(hU:Pu w0 base b s w)(hs:s.length≤80000)(hn:Nums w0 sl p.loose)(hbd:∀ (i:Nat) (g o:Nat),sl = .slice (some ⟨g,o,none⟩) p.loose.length i→0 < p.loose.length→g < base∧g≠b)(hl:p.loose.length≤1000)(hlo:∀ y∈p.loose,0≤y∧y≤64):
  Calls Tryz.prog 63 #[.pointer (some ⟨b,0,none⟩),.agg (p.cells sl).toArray] w fun e w'=>e = .returned (.tuple #[])∧Pu w0 base b (s ++ Tt.parentText p) w':=by
 obtain⟨sad,sc,ng,no,rfl,hnc⟩:=hn;obtain⟨ln,hln⟩:∃ ln,ln = p.loose.length:=⟨_,rfl⟩;have hln9:(ln:Int)≤1000:=by omega
 have hln8:ln≤1000:=by omega
 have HOK:=hid hok;have HS:=hid hs;have HLN:=hid hln;have HLO:=hid hlo;rw [← hln] at hbd ⊢
 have HNC:=hid (fun(t:List UInt8) (x:World) (u:Pu w0 base b t x) (i:Nat) (hi:i < p.loose.length)=>show sad = some ⟨ng,no,none⟩∧x.cell? ⟨ng,no + i,none⟩ = some (.int .i64 p.loose[i]) from by
  obtain⟨e1,_,e3⟩:=hnc i hi;obtain⟨h1,h2⟩:=hbd sc ng no (by rw [e1]) (by omega)
  exact⟨e1,(u.kp.cell (p:=⟨ng,no + i,none⟩) h1 h2).trans e3⟩)
 have HSZ:=hid (Pr.size hok (.slice sad ln sc));obtain⟨D,hD⟩:∃ D,D = (p.cells (.slice sad ln sc)).toArray:=⟨_,rfl⟩;rw [← hD] at HSZ ⊢;have HDE:=hid hD;clear hok hD hl hlo hs hln hnc hbd
 go_enter Tryz.func63,Tryz.ntmps63
 go_upto_region 1 with fail
 have u1:=hU.kept (kA w (.cells D 67))
 have b1:=heap_new w (.cells D 67)
 have hlb:=Nat.lt_of_lt_of_le hU.wr.lt hU.wr.le;generalize w.alloc (.cells D 67) = w1 at u1 b1 ⊢
 obtain⟨lb,hlbe⟩:∃ lb,lb = w.heap.size:=⟨_,rfl⟩;rw [← hlbe] at b1 hlb
 (try rw [← hlbe])
 have HNE:=hid (show lb≠b by omega)
 have U1:Hid (Pu w1 base b s w1):=hid (Pu.start u1.wr u1.tab u1.pos);have B1:=hid b1;have HK0:=hid (fun(t:List UInt8) (x:World) (u:Pu w1 base b t x)=>(show Pu w0 base b t x from⟨u.wr,u.tab,u1.kp.trans u.kp,u1.fr.trans u.fr,u.pos⟩))
 clear hU u1 b1 hlbe hlb;have HBX:=hid (fun(t:List UInt8) (x:World) (u:Pu w1 base b t x)=>(show x.heap[lb]? = some (.cells (p.cells (.slice sad ln sc)).toArray 67 (0,0)) by rw [← HDE.out]; exact u.box B1.out HNE.out (by decide)))
 have c0:=pr_cell0 (HBX.out _ _ U1.out);obtain⟨st,hst⟩:∃ st,st = p.set:=⟨_,rfl⟩;rw [← hst] at c0;have HST:=hid hst;have HC0:=hid (fun(t:List UInt8) (x:World) (u:Pu w1 base b t x)=>(show x.cell? ⟨lb,0,none⟩ = some (.bool st) by rw [hst]; exact pr_cell0 (HBX.out t x u)))
 clear hst
 cases st with
 | false=>
  have HEQ:=hid (show s ++ [if false = true then 1 else 0] = s ++ Tt.parentText p by
   show s ++ [0] = _
   rw [Tt.parentText,← HST.out,if_neg (by decide)])
  refine wp_region_lit ?_;iterate 3 (refine @wQ _ _ _ _ _ _ _ ?_ ?_;kernel_rfl;intro K hK;go_simp;refine hK _ _ ?_;clear hK K)
  refine @wQ _ _ _ _ _ _ _ ?_ ?_;kernel_rfl;intro K hK;go_simp;go_at_call 89
  refine(U1.out.flag _ (by have:=HS.out; omega)).mono ?_
  rintro e w3 ⟨rfl,u3⟩;have U3:=hid u3;clear u3 c0;refine hK _ _ ?_;clear hK K;have c0:=HC0.out _ _ U3.out
  go_upto_region 2 with fail
  refine wp_region_lit ?_;iterate 3 (refine @wQ _ _ _ _ _ _ _ ?_ ?_;kernel_rfl;intro K hK;go_simp;refine hK _ _ ?_;clear hK K)
  clear c0;go_wp2;refine bodyPost_ret (results_none rfl _ _ _) rfl ?_;exact⟨rfl,HK0.out _ _ (by have:=U3.out; rw [HEQ.out] at this; exact this)⟩
 | true=>
  have HEQ:=hid (show s ++ [if true = true then 1 else 0] ++ p.pub ++ p.abv ++ Wm.enc ln ++ Tt.looseText p.loose = s ++ Tt.parentText p by
   show s ++ [1] ++ p.pub ++ p.abv ++ Wm.enc ln ++ Tt.looseText p.loose = _;rw [Tt.parentText,← HST.out,if_pos rfl,HLN.out]
   simp only [List.append_assoc])
  have HLE:=hid (Wm.enc_length_le ln);have HLP:=hid (fun(t:List UInt8) (x:World) (u:Pu w1 base b t x)=>run_loadVar_mid x lb 1 35 (bcells p.pub) _ (pr_pub HOK.out (HBX.out t x u)) Tryz.underlying35 rfl (hashInfoT (by rw [bcells_length,HOK.out.1])))
  have HLA:=hid (fun(t:List UInt8) (x:World) (u:Pu w1 base b t x)=>run_loadVar_mid x lb 33 35 (bcells p.abv) _ (pr_abv HOK.out (HBX.out t x u)) Tryz.underlying35 rfl (hashInfoT (by rw [bcells_length,HOK.out.2])))
  have HHP:=hid (fun(t:List UInt8) (x:World) (u:Pu w1 base b t x) (ht:t.length≤100000)=>u.hash p.pub HOK.out.1 ht)
  have HHA:=hid (fun(t:List UInt8) (x:World) (u:Pu w1 base b t x) (ht:t.length≤100000)=>u.hash p.abv HOK.out.2 ht)
  obtain⟨DP,hDP⟩:∃ D,D = (bcells p.pub).toArray:=⟨_,rfl⟩;obtain⟨DA,hDA⟩:∃ D,D = (bcells p.abv).toArray:=⟨_,rfl⟩;rw [← hDP] at HLP HHP;rw [← hDA] at HLA HHA;clear hDP hDA;refine wp_region_lit ?_;iterate 3 (refine @wQ _ _ _ _ _ _ _ ?_ ?_;kernel_rfl;intro K hK;go_simp;refine hK _ _ ?_;clear hK K)
  refine @wQ _ _ _ _ _ _ _ ?_ ?_;kernel_rfl;intro K hK;go_simp;go_at_call 89
  refine(U1.out.flag _ (by have:=HS.out; omega)).mono ?_
  rintro e w3 ⟨rfl,u3⟩;have U3:=hid u3;clear u3 c0;refine hK _ _ ?_;clear hK K;have c0:=HC0.out _ _ U3.out
  go_upto_region 2 with fail
  refine wp_region_lit ?_;iterate 3 (refine @wQ _ _ _ _ _ _ _ ?_ ?_;kernel_rfl;intro K hK;go_simp;refine hK _ _ ?_;clear hK K)
  clear c0
  go_upto_region 3 with fail
  refine wp_region_lit ?_;iterate 2 (refine @wQ _ _ _ _ _ _ _ ?_ ?_;kernel_rfl;intro K hK;go_simp;refine hK _ _ ?_;clear hK K)
  refine @wpList_load_known _ _ _ _ _ _ _ ?_ 35 (.tmp 14) rfl (lb) (1) rfl (.agg DP) (HLP.out _ _ U3.out) ?_;kernel_rfl
  simp only [Act.put,sA,sB,sC];refine @wQ _ _ _ _ _ _ _ ?_ ?_;kernel_rfl;intro K hK;go_simp;go_at_call 64
  refine(HHP.out _ _ U3.out (by simp only [List.length_append,List.length_singleton]; have:=HS.out; omega)).mono ?_
  rintro e w4 ⟨rfl,u4⟩;have U4:=hid u4;clear u4;refine hK _ _ ?_;clear hK K
  go_upto_region 4 with fail
  refine wp_region_lit ?_;iterate 2 (refine @wQ _ _ _ _ _ _ _ ?_ ?_;kernel_rfl;intro K hK;go_simp;refine hK _ _ ?_;clear hK K)
  refine @wpList_load_known _ _ _ _ _ _ _ ?_ 35 (.tmp 18) rfl (lb) (33) rfl (.agg DA) (HLA.out _ _ U4.out) ?_;kernel_rfl
  simp only [Act.put,sA,sB,sC];refine @wQ _ _ _ _ _ _ _ ?_ ?_;kernel_rfl;intro K hK;go_simp;go_at_call 64
  refine(HHA.out _ _ U4.out (by simp only [List.length_append,List.length_singleton]; have:=HS.out; have:=HOK.out.1; omega)).mono ?_
  rintro e w5 ⟨rfl,u5⟩;have U5:=hid u5;clear u5;refine hK _ _ ?_;clear hK K;have c65:=pr_loose HOK.out (HBX.out _ _ U5.out)
  go_upto_region 5 with fail
  refine wp_region_lit ?_;iterate 4 (refine @wQ _ _ _ _ _ _ _ ?_ ?_;kernel_rfl;intro K hK;go_simp;refine hK _ _ ?_;clear hK K)
  refine @wQ _ _ _ _ _ _ _ ?_ ?_;kernel_rfl;intro K hK;go_simp;go_at_call 90
  refine(U5.out.num ln (by omega) (by simp only [List.length_append,List.length_singleton]; have:=HS.out; have:=HOK.out.1; have:=HOK.out.2; omega)).mono ?_
  rintro e w6 ⟨rfl,u6⟩;have U6:=hid u6;clear u6 c65;refine hK _ _ ?_;clear hK K;obtain⟨sx,hsx⟩:∃ sx,sx = s ++ [if true = true then 1 else 0] ++ p.pub ++ p.abv ++ Wm.enc ln:=⟨_,rfl⟩
  have HSL:=hid (show sx.length≤80100 by rw [hsx]; simp only [List.length_append,List.length_singleton]; have:=HS.out; have:=HLE.out; have:=HOK.out.1; have:=HOK.out.2; omega)
  rw [← hsx] at U6 HEQ
  have U7:Hid (Pu w1 base b (sx ++ Tt.looseText (p.loose.take 0)) w6):=hid (by
   have:=U6.out;rw [List.take_zero]
   exact(List.append_nil sx).symm ▸ this)
  clear U6 hsx;have c65:=pr_loose HOK.out (HBX.out _ _ U7.out)
  go_upto_region 6 with fail
  refine wp_region_lit ?_;iterate 4 (refine @wQ _ _ _ _ _ _ _ ?_ ?_;kernel_rfl;intro K hK;go_simp;refine hK _ _ ?_;clear hK K)
  clear c65;go_wp2
  go_loopw [29] (fun s29 wr=>∃ i:Nat,s29 = .int .i64 (i:Int)∧Hid (i≤ln)∧Hid (Pu w1 base b (sx ++ Tt.looseText (p.loose.take i)) wr)) (fun s29 _=>ln - (RowKit.intOf s29).toNat)
  case atStart=>exact⟨0,rfl,hid (Nat.zero_le _),U7⟩
  case round=>
   clear U7;obtain⟨i,rfl,hi,HU⟩:=hrel
   by_cases hlt:i < ln
   ·have hiL:i < p.loose.length:=by rw [← HLN.out]; exact hlt
    have hlti:(i:Int) < (ln:Int):=by omega
    have hi0:¬ (i:Int) < 0:=by omega
    obtain⟨hsad,hcell⟩:=HNC.out _ _ (HK0.out _ _ HU.out) i hiL;subst hsad;obtain⟨y,hy⟩:∃ y,y = p.loose[i]:=⟨_,rfl⟩;obtain⟨hy0,hy1⟩:=HLO.out _ (List.getElem_mem hiL);rw [← hy] at hcell hy0 hy1;obtain⟨yn,hyn⟩:∃ yn:Nat,y = (yn:Int):=⟨y.toNat,by omega⟩
    have HTK:=hid (show sx ++ Tt.looseText (p.loose.take i) ++ Wm.enc yn = sx ++ Tt.looseText (p.loose.take (i + 1)) by
     rw [List.take_succ_eq_append_getElem hiL,Tt.looseText_snoc,← hy,hyn,Int.toNat_natCast,List.append_assoc])
    rw [hyn] at hcell
    have HTL:=hid (show(sx ++ Tt.looseText (p.loose.take i)).length≤100000 by
     have h1:=Tt.looseText_length (p.loose.take i);rw [List.length_take] at h1;rw [List.length_append];have:=HSL.out
     omega)
    have hyn9:yn≤64:=by omega
    have HNY:=hid (HU.out.num yn (by omega) HTL.out)
    have HLT:=hid hlt;clear hlt hi hiL hy hy0 hy1 hyn hyn9
    go_upto_region 8 with fail
    refine wp_region_lit ?_;iterate 3 (refine @wQ _ _ _ _ _ _ _ ?_ ?_;kernel_rfl;intro K hK;go_simp;refine hK _ _ ?_;clear hK K)
    clear hcell
    go_upto_region 9 with fail
    refine wp_region_lit ?_;iterate 2 (refine @wQ _ _ _ _ _ _ _ ?_ ?_;kernel_rfl;intro K hK;go_simp;refine hK _ _ ?_;clear hK K)
    refine @wQ _ _ _ _ _ _ _ ?_ ?_;kernel_rfl;intro K hK;go_simp;go_at_call 90
    refine(HNY.out).mono ?_;rintro e w8 ⟨rfl,u8⟩;rw [HTK.out] at u8;have U8:=hid u8;clear u8;refine hK _ _ ?_;clear hK K;go_wp2
    go_roundw
    case rel=>exact⟨i + 1,by simp,hid HLT.out,U8⟩
    case measure=>have:=HLT.out; simp [RowKit.intOf]; omega
   ·have hnl:¬ (i:Int) < (ln:Int):=by omega
    have HE:=hid (show p.loose.take i = p.loose by rw [List.take_of_length_le]; have:=hi.out; have:=HLN.out; omega)
    clear hlt hi;go_wp2;refine bodyPost_end (results_none rfl _ _ _) rfl ?_;exact⟨rfl,HK0.out _ _ (by have:=HU.out; rw [HE.out,HEQ.out] at this; exact this)⟩
theorem written_calls (base b:Nat)(s:List UInt8)(w:World)(h:Wr w base b (some s)):Calls Tryz.prog 62 #[.pointer (some ⟨b,0,none⟩)] w fun e w'=>e = .returned (.string (str s))∧w' = w:=by
 have HE:=hid (wend_ok base b s w h);obtain⟨ss,hss⟩:∃ ss,ss = str s:=⟨_,rfl⟩;rw [← hss] at HE ⊢;clear h hss
 go_enter Tryz.func62,Tryz.ntmps62
 go_wp2_with (go_at_call 91; refine HE.out.mono ?_; rintro e w' ⟨rfl,hw⟩; subst w')
 go_ret;exact⟨rfl,rfl⟩
namespace Tt
def leafB:List UInt8:=[108,101,97,102]
def nodeB:List UInt8:=[110,111,100,101]
def hashSeg (L:List Lf)(P:List Pr):Nat→Nat→Nat→List UInt8
 | 0,_,_=>[]
 | k + 1,a,m=>if m = 1 then Sm.sum (leafB ++ leafText (L.getD a Lf.zero)) else Sm.sum (nodeB ++ parentText (P.getD (Bo.root a m / 2) Pr.zero) ++ hashSeg L P k a (Bo.half m) ++ hashSeg L P k (a + Bo.half m) (m - Bo.half m))
theorem hashSeg_one (L:List Lf)(P:List Pr)(k a:Nat):hashSeg L P (k + 1) a 1 = Sm.sum (leafB ++ leafText (L.getD a Lf.zero)):=by rw [hashSeg,if_pos rfl]
theorem hashSeg_two (L:List Lf)(P:List Pr)(k a m:Nat)(h:2≤m):hashSeg L P (k + 1) a m = Sm.sum (nodeB ++ parentText (P.getD (Bo.root a m / 2) Pr.zero) ++ hashSeg L P k a (Bo.half m) ++ hashSeg L P k (a + Bo.half m) (m - Bo.half m)):=by rw [hashSeg,if_neg (by omega)]
end Tt
theorem sum_len32 (l:List UInt8):(Sm.sum l).length = 32:=by
 rw [Sm.sum];exact wbytes_length (Sm.blocks (Sm.pad l) ((Sm.pad l).length / 64)).list 8 (Nat.le_refl _)
structure Tt.Fine (L:List Lf) (P:List Pr):Prop where
 n64:L.length≤64
 par:P.length = L.length - 1
 nms:∀ l∈L,0≤l.name∧l.name≤64
 len:∀ p∈P,p.loose.length≤1000
 lse:∀ p∈P,∀ y∈p.loose,0≤y∧y≤64
theorem hashSeg_len (L:List Lf)(P:List Pr)(k a m:Nat):(Tt.hashSeg L P (k + 1) a m).length = 32:=by
 unfold Tt.hashSeg
 split <;> exact sum_len32 _
theorem isleaf_yes (x:Int)(_h:IntKind.i64.wrap (x.tmod 2) = 0)(_h2:x.tmod 2 = 0)(w:World):Calls Tryz.prog 60 #[.int .i64 x] w fun e w'=>e = .returned (.bool true)∧w' = w:=by
 go_enter Tryz.func60,Tryz.ntmps60
 go_wp2;go_ret;exact⟨rfl,rfl⟩
theorem isleaf_no (x:Int)(_h:IntKind.i64.wrap (x.tmod 2) = 1)(_h2:x.tmod 2 = 1)(w:World):Calls Tryz.prog 60 #[.int .i64 x] w fun e w'=>e = .returned (.bool false)∧w' = w:=by
 go_enter Tryz.func60,Tryz.ntmps60
 go_wp2;go_ret;exact⟨rfl,rfl⟩
theorem info30 {cs:Array Value}(h:cs.size = 32):(Tryz.prog.info? 35).map (·.size) = some cs.size:=by rw [h]; kernel_rfl
theorem sum_pair (a b:List UInt8)(blk:Nat)(u:World)(s t:ByteArray)(hs:s = str a)(ht:t = str b)(h:u.heap[blk]? = some (.cells #[.string s,.string t] 9 (0,0)))(hl:a.length + b.length≤1000000):
  Calls Tryz.prog 58 #[.slice (some ⟨blk,0,none⟩) 2 2] u fun e w'=>e = .returned (.agg (bcells (Sm.sum (a ++ b))).toArray)∧Kept u.heap.size u.heap.size u w':=by
 subst hs ht;have hj:joined [str a,str b] [str a,str b].length = a ++ b:=by simp [joined,str]
 have:=sum_calls [str a,str b] (some ⟨blk,0,none⟩) 2 blk 0 u (hid (by show 2 < _; decide)) (hid (by rw [hj,List.length_append]; omega)) (fun j hj=>by
  refine⟨rfl,lt_of_block h,?_⟩;have hj':j = 0∨j = 1:=by simp at hj; omega
  rcases hj' with rfl | rfl
  ·exact two_cell0 h
  ·exact two_cell1 h)
 rw [hj] at this;exact this
theorem hashof_calls (L:List Lf)(P:List Pr)(hF:Tt.Fine L P)(n:Nat)(hn:n = L.length)(hn1:1≤n):∀ (k a m:Nat) (p b:Int),m≤k→Bo.Seg n a m p b→∀ (lv pv:Value) (w:World),Tab w→Lvs w lv L→Pts w pv P →
  Calls Tryz.prog 39 #[.agg #[lv,pv],.int .i64 ((Bo.root a m:Nat):Int)] w fun e w'=>e = .returned (.agg (bcells (Tt.hashSeg L P k a m)).toArray)∧Kept w.heap.size w.heap.size w w':=by
 intro k
 induction k with
 | zero=>
  intro a m p b h1 h2;have:=(h2.size hn1).1
  omega
 | succ k ih=>
  intro a m p b hmk hseg lv pv w htab hL hP;obtain⟨hm1,ham⟩:=hseg.size hn1;have h64:n≤64:=by rw [hn]; exact hF.n64
  obtain⟨lad,lg,lo,lc,rfl,hlc,hlcc⟩:=hL;have hP0:=hP;obtain⟨pad,pg,po,pc,rfl,hpc,_⟩:=hP;obtain⟨ln,hln⟩:∃ ln,ln = L.length:=⟨_,rfl⟩;obtain⟨pn,hpn⟩:∃ pn,pn = P.length:=⟨_,rfl⟩;have hL0:Lvs w (.slice lad L.length lc) L:=⟨lad,lg,lo,lc,rfl,hlc,hlcc⟩;have hw0:=htab.lt
  by_cases h1:m = 1
  ·subst h1
   have ha:a < L.length:=by omega
   obtain⟨rfl,hg,hok,hr⟩:=hlc a ha;have hget:L.getD a Lf.zero = L[a]:=by rw [List.getD_eq_getElem?_getD,List.getElem?_eq_getElem ha]; rfl
   obtain⟨hnm0,hnm1⟩:=hF.nms _ (List.getElem_mem ha);rw [Tt.hashSeg_one,hget];have HPL:=hid (fun(w0:World) (base b:Nat) (u:World) (hU:Pu w0 base b [] u)=>putleaf_calls w0 base b [] L[a] hok hnm0 hnm1 u hU (Nat.zero_le _))
   have hlen:=Tt.leafText_length hok;obtain⟨ct,hct⟩:∃ ct,ct = L[a].cells:=⟨_,rfl⟩;rw [← hct] at HPL hr;obtain⟨lt,hlt⟩:∃ lt,lt = Tt.leafText L[a]:=⟨_,rfl⟩;rw [← hlt] at HPL hlen ⊢;have HSP:=hid (fun(blk:Nat) (u:World) (s:ByteArray) (hs:s = str lt) h=>sum_pair Tt.leafB lt blk u ⟨#[108,101,97,102]⟩ s rfl hs h (by show 4 + _≤_; omega))
   have hcs:(bcells (Sm.sum (Tt.leafB ++ lt))).toArray.size = 32:=by rw [List.size_toArray,bcells_length,sum_len32]
   have hall:=bcells_all (Sm.sum (Tt.leafB ++ lt));obtain⟨cu,hcu⟩:∃ cu,cu = (bcells (Sm.sum (Tt.leafB ++ lt))).toArray:=⟨_,rfl⟩;rw [← hcu] at HSP hcs hall ⊢;have HCS:=hid hcs;have HALL:=hid hall;have hal:(a:Int) < (ln:Int):=by omega
   have ha0:¬ (a:Int) < 0:=by omega
   obtain⟨x,hx⟩:∃ x:Int,x = ((Bo.root a 1:Nat):Int):=⟨_,rfl⟩;have hx2:x = 2 * (a:Int):=by rw [hx,Bo.root_one]; omega
   rw [← hx];have HQU:=hid (show IntKind.i64.wrap (x.tdiv 2) = (a:Int) by rw [show x.tdiv 2 = (a:Int) by rw [hx2,Int.tdiv_eq_ediv_of_nonneg (by omega)]; omega,wrap_small _ (by omega) (by omega)])
   have hxm:x.tmod 2 = 0:=by rw [hx2,Int.tmod_eq_emod_of_nonneg (by omega)]; omega
   have HIL:=hid (fun u=>isleaf_yes x (by rw [hxm]; rfl) hxm u)
   have HINF:=hid (show(Tryz.prog.info? 37).map (·.size) = some ct.length by have:=leafInfo (Lf.size hok); rw [hct]; simpa using this)
   have HG:=hid hg;have HR:=hid hr;rw [← hln,← hpn];clear ih hmk hseg hm1 ham hlc hL0 hP0 hpc hget hnm0 hnm1 hok hlen hct hlt hcs hall hcu hx hx2 hxm hg hr hln hpn ha h64 hn hn1 hF hlcc;have k1:=kA w (.cells #[.slice (some ⟨lg,lo,none⟩) ln lc,.slice pad pn pc] 27)
   have t1:=heap_new w (.cells #[.slice (some ⟨lg,lo,none⟩) ln lc,.slice pad pn pc] 27)
   have s1:(w.alloc (.cells #[.slice (some ⟨lg,lo,none⟩) ln lc,.slice pad pn pc] 27)).heap.size = w.heap.size + 1:=by simp
   go_enter Tryz.func39,Tryz.ntmps39
   go_upto_region 1 with fail
   rw [zeros32_eq];generalize w.alloc (.cells #[.slice (some ⟨lg,lo,none⟩) ln lc,.slice pad pn pc] 27) = wa at k1 t1 s1 ⊢
   have k2:=kA wa (.cells zeros32 35)
   have r2:=heap_new wa (.cells zeros32 35)
   have t2:=rk t1 k2;generalize wa.alloc (.cells zeros32 35) = w1 at k2 r2 t2 ⊢
   have k12:=k1.next1 k2;rw [s1] at r2
   (try rw [s1])
   obtain⟨tb,htb⟩:∃ tb,tb = w.heap.size:=⟨_,rfl⟩;obtain⟨rb,hrb⟩:∃ rb,rb = w.heap.size + 1:=⟨_,rfl⟩;rw [← hrb] at r2
   (try rw [← hrb])
   rw [← htb] at t2
   (try rw [← htb])
   have HRB:=hid (show ¬ rb < w.heap.size by omega)
   have HTB1:=hid (lt_of_block t2);have HRB1:=hid (lt_of_block r2);have HW01:=hid (show 0 < w1.heap.size from Nat.lt_of_lt_of_le hw0 k12.size);have HWS:=hid k12.size;have HTAB:=hid (htab.kept k12 hw0 hw0);have T1:=hid t2;have R1:=hid r2;have K1:=hid k12;clear k1 t1 s1 k2 r2 t2 k12 htb hrb hw0 htab;refine wp_region_lit ?_;refine @wQ _ _ _ _ _ _ _ ?_ ?_;kernel_rfl;intro K hK;go_simp;go_at_call 59
   refine(new_calls w1).mono ?_;rintro e w2 ⟨rfl,wr2,k2,s2⟩;refine hK _ _ ?_;clear hK K;obtain⟨wb,hwb⟩:∃ wb,wb = w1.heap.size:=⟨_,rfl⟩;have tab2:=HTAB.out.kept k2 HW01.out HW01.out;have U2:=hid (Pu.start (base:=w1.heap.size + 1) (b:=w1.heap.size) (s:=[]) wr2 tab2 HW01.out);have K2:=hid (K1.out.next1 k2);have T2:=hid (rk T1.out k2);have R2:=hid (rk R1.out k2);obtain⟨base,hbase⟩:∃ base,base = w1.heap.size + 1:=⟨_,rfl⟩;have HBT:=hid (show tb < base∧tb≠wb by have:=HTB1.out; omega)
   have HBR:=hid (show rb < base∧rb≠wb by have:=HRB1.out; omega)
   have HBW:=hid (show ∀ g,g < w.heap.size→g < base∧g≠wb from fun g hg=>by have:=HWS.out; omega)
   rw [← hwb] at U2 hbase;rw [← hbase] at U2;rw [← hwb];have HTT:=hid (fun(t:List UInt8) (x:World) (u:Pu w2 base wb t x)=>(u.kp.block tb HBT.out.1 HBT.out.2).trans T2.out)
   have HRR:=hid (fun(t:List UInt8) (x:World) (u:Pu w2 base wb t x)=>(u.kp.block rb HBR.out.1 HBR.out.2).trans R2.out)
   have HKW:=hid (fun(t:List UInt8) (x:World) (u:Pu w2 base wb t x)=>(show Kept w.heap.size w.heap.size w x from K2.out.trans (u.kp.mono (by have:=HBT.out; have:=HWS.out; omega) (fun i hi _=>(HBW.out i hi).2))))
   clear wr2 k2 s2 tab2 hwb hbase T1 R1 K1 HTAB HW01 HTB1 HRB1;refine @wQ _ _ _ _ _ _ _ ?_ ?_;kernel_rfl;intro K hK;go_simp;refine hK _ _ ?_;clear hK K
   go_upto_region 2 with fail
   refine wp_region_lit ?_;refine @wQ _ _ _ _ _ _ _ ?_ ?_;kernel_rfl;intro K hK;go_simp;refine hK _ _ ?_;clear hK K;refine @wQ _ _ _ _ _ _ _ ?_ ?_;kernel_rfl;intro K hK;go_simp;go_at_call 60
   refine(HIL.out _).mono ?_;rintro e wx ⟨rfl,hwx⟩;subst wx;refine hK _ _ ?_;clear hK K;have t0:=two_cell0 (HTT.out _ _ U2.out);have HLD:=hid (run_loadVar_mid w2 lg (lo + a * 97) 37 ct _ (rangeAt_kept (HKW.out _ _ U2.out) HR.out HG.out (Nat.ne_of_lt HG.out)) Tryz.underlying37 rfl HINF.out)
   go_upto_region 3 with fail
   refine wp_region_lit ?_;iterate 5 (refine @wQ _ _ _ _ _ _ _ ?_ ?_;kernel_rfl;intro K hK;go_simp;refine hK _ _ ?_;clear hK K)
   rw [HQU.out];refine @wQ _ _ _ _ _ _ _ ?_ ?_;kernel_rfl;intro K hK;go_simp;refine hK _ _ ?_;clear hK K;refine @wpList_load_known _ _ _ _ _ _ _ ?_ 37 (.tmp 15) rfl (lg) (lo + a * 97) rfl (.agg ct.toArray) (HLD.out) ?_;kernel_rfl
   simp only [Act.put,sA,sB,sC];refine @wQ _ _ _ _ _ _ _ ?_ ?_;kernel_rfl;intro K hK;go_simp;go_at_call 61
   refine(HPL.out _ _ _ _ U2.out).mono ?_;rintro e w4 ⟨rfl,u4⟩;refine hK _ _ ?_;clear hK K;rw [List.nil_append] at u4;have U4:=hid u4;clear u4 t0;obtain⟨ss,hss⟩:∃ ss,ss = str lt:=⟨_,rfl⟩;have HWT:=hid (written_calls base wb lt w4 U4.out.wr);rw [← hss] at HWT;have HSS:=hid hss;clear hss
   go_upto_region 4 with fail
   refine wp_region_lit ?_;refine @wQ _ _ _ _ _ _ _ ?_ ?_;kernel_rfl;intro K hK;go_simp;refine hK _ _ ?_;clear hK K;refine @wQ _ _ _ _ _ _ _ ?_ ?_;kernel_rfl;intro K hK;go_simp;go_at_call 62
   refine(HWT.out).mono ?_;rintro e wx ⟨rfl,hwx⟩;subst wx;refine hK _ _ ?_;clear hK K;refine @wQ _ _ _ _ _ _ _ ?_ ?_;kernel_rfl;intro K hK;go_simp;refine hK _ _ ?_;clear hK K;refine @wQ _ _ _ _ _ _ _ ?_ ?_;kernel_rfl;intro K hK;go_simp;go_at_call 58
   refine(HSP.out _ _ ss HSS.out (heap_new w4 _)).mono ?_;rintro e w6 ⟨rfl,k6⟩;refine hK _ _ ?_;clear hK K;have u6:=(U4.out.kept ((Kept.refl w4.heap.size w4.heap.size w4).alloc (Nat.le_refl _) _)).kept k6;have R6:=hid (HRR.out _ _ u6);have K6:=hid (HKW.out _ _ u6);clear u6 k6;refine wpList_store_row rfl 35 _ _ rfl (rb) cu rfl rfl 35 zeros32 R6.out (info30 HCS.out) (by rw [HCS.out]; rfl) HALL.out ?_
   simp only [Act.put];have R7:=setRow_heap w6 rb _ cu _ _ R6.out;have K7:=hid (K6.out.grown (grown_setRow w6 rb cu) K6.out.size (fun k e=>by cases e; exact Nat.le_of_not_lt HRB.out))
   generalize w6.setRow rb cu = w7 at R7 K7 ⊢;go_wp2;refine bodyPost_ret (results_cell_row rfl _ _ rb 35 _ (0,0) _ rfl R7 Tryz.underlying35 rfl (info30 HCS.out)) rfl ?_
   exact⟨rfl,K7.out⟩
  ·have h2:2≤m:=by omega
   have hh1:=Bo.half_pos m;have hh2:=Bo.half_lt h2;have hrt:=Bo.root_two (a:=a) h2;obtain⟨j,hj⟩:∃ j,j = Bo.root a m / 2:=⟨_,rfl⟩;have hxj:Bo.root a m = 2 * j + 1:=by omega
   have hjP:j < P.length:=by rw [hF.par]; omega
   obtain⟨rfl,hg,hok,sl,hr,hnums⟩:=hpc j hjP;have hget:P.getD (Bo.root a m / 2) Pr.zero = P[j]:=by rw [← hj,List.getD_eq_getElem?_getD,List.getElem?_eq_getElem hjP]; rfl
   have hlse:=hF.lse _ (List.getElem_mem hjP);have hl9:=hF.len _ (List.getElem_mem hjP);obtain⟨k',hk'⟩:∃ k',k = k' + 1:=⟨k - 1,by omega⟩
   have hs1:(Tt.hashSeg L P k a (Bo.half m)).length = 32:=by rw [hk']; exact hashSeg_len L P k' _ _
   have hs2:(Tt.hashSeg L P k (a + Bo.half m) (m - Bo.half m)).length = 32:=by rw [hk']; exact hashSeg_len L P k' _ _
   have eside:=(Bo.say_sides (hseg.inn hn1) h64 (hseg.part hn1 h64)).2 h1;have HLE:=hid (fun u=>left_calls_of lenIs (n:Int) ((Bo.root a m:Nat):Int) u)
   have HRI:=hid (fun u=>right_calls_of lenIs (n:Int) ((Bo.root a m:Nat):Int) u)
   rw [eside.1] at HLE;rw [eside.2] at HRI;have HH1:=hid (fun(u:World) (ht:Tab u) (kk:Kept w.heap.size w.heap.size w u)=>ih a (Bo.half m) _ _ (by omega) (hseg.left h2) _ _ u ht (hL0.kept kk) (hP0.kept kk))
   have HH2:=hid (fun(u:World) (ht:Tab u) (kk:Kept w.heap.size w.heap.size w u)=>ih (a + Bo.half m) (m - Bo.half m) _ _ (by omega) (hseg.right h2) _ _ u ht (hL0.kept kk) (hP0.kept kk))
   rw [Tt.hashSeg_two L P k a m h2,hget];have hplen:=Tt.parentText_length hok hl9
   have HPT:=hid (fun(w0:World) (base b:Nat) (u:World) (hU:Pu w0 base b [] u) (kk:Kept w.heap.size w.heap.size w w0) (hbw:∀ g,g < w.heap.size→g < base∧g≠b)=>putparent_calls w0 base b [] P[j] hok sl u hU (Nat.zero_le _) (hnums.kept kk) (fun i g o he h0=>by
    obtain⟨sad,sc,ng,no,hsl,hnc⟩:=hnums;obtain⟨e1,e2,_⟩:=hnc 0 h0;rw [hsl,e1] at he;injection he with he _ _
    injection he with he
    injection he with he _ _
    rw [← he]
    exact hbw ng e2) hl9 hlse)
   have HINF:=hid (show(Tryz.prog.info? 67).map (·.size) = some (P[j].cells sl).length by have:=parentInfo (Pr.size hok sl); simpa using this)
   obtain⟨h1x,hh1x⟩:∃ y,y = Tt.hashSeg L P k a (Bo.half m):=⟨_,rfl⟩;obtain⟨h2x,hh2x⟩:∃ y,y = Tt.hashSeg L P k (a + Bo.half m) (m - Bo.half m):=⟨_,rfl⟩;rw [← hh1x] at HH1 hs1 ⊢;rw [← hh2x] at HH2 hs2 ⊢;obtain⟨ct,hct⟩:∃ ct,ct = P[j].cells sl:=⟨_,rfl⟩;rw [← hct] at HPT hr HINF;obtain⟨pt,hpt⟩:∃ pt,pt = Tt.parentText P[j]:=⟨_,rfl⟩;rw [← hpt] at HPT hplen ⊢;have HU1:=hid (fun(w0:World) (base b:Nat) (s:List UInt8) (u:World) (hU:Pu w0 base b s u) (hs:s.length≤100000)=>hU.hash h1x hs1 hs)
   have HU2:=hid (fun(w0:World) (base b:Nat) (s:List UInt8) (u:World) (hU:Pu w0 base b s u) (hs:s.length≤100000)=>hU.hash h2x hs2 hs)
   have HSP:=hid (fun(blk:Nat) (u:World) (s:ByteArray) (hs:s = str (pt ++ h1x ++ h2x)) h=>sum_pair Tt.nodeB (pt ++ h1x ++ h2x) blk u ⟨#[110,111,100,101]⟩ s rfl hs h (by simp only [List.length_append,hs1,hs2]; show 4 + _≤_; omega))
   have hcat:Tt.nodeB ++ (pt ++ h1x ++ h2x) = Tt.nodeB ++ pt ++ h1x ++ h2x:=by simp only [List.append_assoc]
   rw [hcat] at HSP;have hcs:(bcells (Sm.sum (Tt.nodeB ++ pt ++ h1x ++ h2x))).toArray.size = 32:=by rw [List.size_toArray,bcells_length,sum_len32]
   have hall:=bcells_all (Sm.sum (Tt.nodeB ++ pt ++ h1x ++ h2x));obtain⟨cu,hcu⟩:∃ cu,cu = (bcells (Sm.sum (Tt.nodeB ++ pt ++ h1x ++ h2x))).toArray:=⟨_,rfl⟩;rw [← hcu] at HSP hcs hall ⊢;have HCS:=hid hcs;have HALL:=hid hall;obtain⟨d1,hd1⟩:∃ d,d = (bcells h1x).toArray:=⟨_,rfl⟩;obtain⟨d2,hd2⟩:∃ d,d = (bcells h2x).toArray:=⟨_,rfl⟩;rw [← hd1] at HH1 HU1;rw [← hd2] at HH2 HU2;have HPL9:=hid (show pt.length≤10000∧h1x.length = 32∧h2x.length = 32 from⟨hplen,hs1,hs2⟩);obtain⟨y1,hy1⟩:∃ y:Int,y = ((Bo.root a (Bo.half m):Nat):Int):=⟨_,rfl⟩;obtain⟨y2,hy2⟩:∃ y:Int,y = ((Bo.root (a + Bo.half m) (m - Bo.half m):Nat):Int):=⟨_,rfl⟩;rw [← hy1] at HLE HH1;rw [← hy2] at HRI HH2;obtain⟨x,hx⟩:∃ x:Int,x = ((Bo.root a m:Nat):Int):=⟨_,rfl⟩;rw [← hx] at HLE HRI ⊢;have hx2:x = 2 * (j:Int) + 1:=by rw [hx,hxj]; omega
   have HQU:=hid (show IntKind.i64.wrap (x.tdiv 2) = (j:Int) by rw [show x.tdiv 2 = (j:Int) by rw [hx2,Int.tdiv_eq_ediv_of_nonneg (by omega)]; omega,wrap_small _ (by omega) (by omega)])
   have hxm:x.tmod 2 = 1:=by rw [hx2,Int.tmod_eq_emod_of_nonneg (by omega)]; omega
   have HIL:=hid (fun u=>isleaf_no x (by rw [hxm]; rfl) hxm u)
   have hjl:(j:Int) < (pn:Int):=by omega
   have hj0:¬ (j:Int) < 0:=by omega
   have hnl:n = ln:=by omega
   rw [hnl] at HLE HRI;rw [← hln,← hpn] at HH1 HH2;have HG:=hid hg;have HR:=hid hr;rw [← hln,← hpn];clear ih hmk hseg hm1 ham hlc hL0 hP0 hpc hget hok hlse hl9 hs1 hs2 eside hplen hct hpt hcs hall hcu hcat hd1 hd2 hy1 hy2 hx hx2 hxm hg hr hnums hh1 hh2 hrt hj hxj hjP hh1x hh2x hk' h1 h2 hpn hln h64 hnl hn hn1 hF hlcc;have k1:=kA w (.cells #[.slice lad ln lc,.slice (some ⟨pg,po,none⟩) pn pc] 27)
   have t1:=heap_new w (.cells #[.slice lad ln lc,.slice (some ⟨pg,po,none⟩) pn pc] 27)
   have s1:(w.alloc (.cells #[.slice lad ln lc,.slice (some ⟨pg,po,none⟩) pn pc] 27)).heap.size = w.heap.size + 1:=by simp
   go_enter Tryz.func39,Tryz.ntmps39
   go_upto_region 1 with fail
   rw [zeros32_eq];generalize w.alloc (.cells #[.slice lad ln lc,.slice (some ⟨pg,po,none⟩) pn pc] 27) = wa at k1 t1 s1 ⊢
   have k2:=kA wa (.cells zeros32 35)
   have r2:=heap_new wa (.cells zeros32 35)
   have t2:=rk t1 k2;generalize wa.alloc (.cells zeros32 35) = w1 at k2 r2 t2 ⊢
   have k12:=k1.next1 k2;rw [s1] at r2
   (try rw [s1])
   obtain⟨tb,htb⟩:∃ tb,tb = w.heap.size:=⟨_,rfl⟩;obtain⟨rb,hrb⟩:∃ rb,rb = w.heap.size + 1:=⟨_,rfl⟩;rw [← hrb] at r2
   (try rw [← hrb])
   rw [← htb] at t2
   (try rw [← htb])
   have HRB:=hid (show ¬ rb < w.heap.size by omega)
   have HTB1:=hid (lt_of_block t2);have HRB1:=hid (lt_of_block r2);have HW01:=hid (show 0 < w1.heap.size from Nat.lt_of_lt_of_le hw0 k12.size);have HWS:=hid k12.size;have HTAB:=hid (htab.kept k12 hw0 hw0);have T1:=hid t2;have R1:=hid r2;have K1:=hid k12;clear k1 t1 s1 k2 r2 t2 k12 htb hrb hw0 htab;refine wp_region_lit ?_;refine @wQ _ _ _ _ _ _ _ ?_ ?_;kernel_rfl;intro K hK;go_simp;go_at_call 59
   refine(new_calls w1).mono ?_;rintro e w2 ⟨rfl,wr2,k2,s2⟩;refine hK _ _ ?_;clear hK K;obtain⟨wb,hwb⟩:∃ wb,wb = w1.heap.size:=⟨_,rfl⟩;have tab2:=HTAB.out.kept k2 HW01.out HW01.out;have U2:=hid (Pu.start (base:=w1.heap.size + 1) (b:=w1.heap.size) (s:=[]) wr2 tab2 HW01.out);have K2:=hid (K1.out.next1 k2);have T2:=hid (rk T1.out k2);have R2:=hid (rk R1.out k2);obtain⟨base,hbase⟩:∃ base,base = w1.heap.size + 1:=⟨_,rfl⟩;have HBT:=hid (show tb < base∧tb≠wb by have:=HTB1.out; omega)
   have HBR:=hid (show rb < base∧rb≠wb by have:=HRB1.out; omega)
   have HBW:=hid (show ∀ g,g < w.heap.size→g < base∧g≠wb from fun g hg=>by have:=HWS.out; omega)
   rw [← hwb] at U2 hbase;rw [← hbase] at U2;rw [← hwb];have HTT:=hid (fun(t:List UInt8) (x:World) (u:Pu w2 base wb t x)=>(u.kp.block tb HBT.out.1 HBT.out.2).trans T2.out)
   have HRR:=hid (fun(t:List UInt8) (x:World) (u:Pu w2 base wb t x)=>(u.kp.block rb HBR.out.1 HBR.out.2).trans R2.out)
   have HKW:=hid (fun(t:List UInt8) (x:World) (u:Pu w2 base wb t x)=>(show Kept w.heap.size w.heap.size w x from K2.out.trans (u.kp.mono (by have:=HBT.out; have:=HWS.out; omega) (fun i hi _=>(HBW.out i hi).2))))
   clear wr2 k2 s2 tab2 hwb hbase T1 R1 K1 HTAB HW01 HTB1 HRB1;refine @wQ _ _ _ _ _ _ _ ?_ ?_;kernel_rfl;intro K hK;go_simp;refine hK _ _ ?_;clear hK K
   go_upto_region 2 with fail
   refine wp_region_lit ?_;refine @wQ _ _ _ _ _ _ _ ?_ ?_;kernel_rfl;intro K hK;go_simp;refine hK _ _ ?_;clear hK K;refine @wQ _ _ _ _ _ _ _ ?_ ?_;kernel_rfl;intro K hK;go_simp;go_at_call 60
   refine(HIL.out _).mono ?_;rintro e wx ⟨rfl,hwx⟩;subst wx;refine hK _ _ ?_;clear hK K;have t0:=two_cell0 (HTT.out _ _ U2.out);have t1:=two_cell1 (HTT.out _ _ U2.out);have HLD:=hid (run_loadVar_mid w2 pg (po + j * 66) 67 ct _ (rangeAt_kept (HKW.out _ _ U2.out) HR.out HG.out (Nat.ne_of_lt HG.out)) Tryz.underlying67 rfl HINF.out)
   go_upto_region 5 with fail
   refine wp_region_lit ?_;iterate 4 (refine @wQ _ _ _ _ _ _ _ ?_ ?_;kernel_rfl;intro K hK;go_simp;refine hK _ _ ?_;clear hK K)
   go_upto_region 6 with fail
   refine wp_region_lit ?_;iterate 5 (refine @wQ _ _ _ _ _ _ _ ?_ ?_;kernel_rfl;intro K hK;go_simp;refine hK _ _ ?_;clear hK K)
   rw [HQU.out];refine @wQ _ _ _ _ _ _ _ ?_ ?_;kernel_rfl;intro K hK;go_simp;refine hK _ _ ?_;clear hK K;refine @wpList_load_known _ _ _ _ _ _ _ ?_ 67 (.tmp 30) rfl (pg) (po + j * 66) rfl (.agg ct.toArray) (HLD.out) ?_;kernel_rfl
   simp only [Act.put,sA,sB,sC];refine @wQ _ _ _ _ _ _ _ ?_ ?_;kernel_rfl;intro K hK;go_simp;go_at_call 63
   refine(HPT.out _ _ _ _ U2.out K2.out HBW.out).mono ?_;rintro e w4 ⟨rfl,u4⟩;refine hK _ _ ?_;clear hK K;rw [List.nil_append] at u4;have U4:=hid u4;clear u4 t0 t1;have HLT:=hid (fun(u:World) (h:∃ s,Pu w2 base wb s u)=>run_loadVar_row u tb 27 27 _ (0,0) _ (HTT.out _ _ h.choose_spec) Tryz.underlying27 rfl treeInfo)
   go_upto_region 7 with fail
   have V0:=hid (U4.out.kept ((Kept.refl w4.heap.size w4.heap.size w4).drew));refine wp_region_noPanic ?_;refine wp_region_held_drew (S:=fun w'=>∃ s,Pu w2 base wb s w') (by kernel_rfl) (⟨_,V0.out⟩) (fun hH=>?_)
   refine wpAnyH_take_ex (i:=0) 33 rfl rfl (by kernel_rfl) (by kernel_rfl) (by kernel_rfl) (fun _ _ _ _ h=>h) (by kernel_rfl) hH ?_
   apply Exists.intro;apply And.intro
   ·intro w9 _
    go_simp
    first | done | rfl
   simp only [sA,sB,sC];refine wpAnyH_take_at (i:=1) 34 (.agg #[.slice lad ln lc,.slice (some ⟨pg,po,none⟩) pn pc]) rfl rfl (by kernel_rfl) (by kernel_rfl) (by kernel_rfl) (fun _ _ _ h=>h) (yieldsIf_load_known (by kernel_rfl) 27 _ rfl (tb) (0) rfl (.agg #[.slice lad ln lc,.slice (some ⟨pg,po,none⟩) pn pc]) (HLT.out)) hH ?_
   simp only [sA,sB,sC];refine wpAnyH_take_ex (i:=2) 35 rfl rfl (by kernel_rfl) (by kernel_rfl) (by kernel_rfl) (fun _ _ _ _ h=>h) (by kernel_rfl) hH ?_
   apply Exists.intro;apply And.intro
   ·intro w9 _
    go_simp
    first | done | rfl
   simp only [sA,sB,sC];refine wpAnyH_take_ex (i:=3) 36 rfl rfl (by kernel_rfl) (by kernel_rfl) (by kernel_rfl) (fun _ _ _ _ h=>h) (by kernel_rfl) hH ?_
   apply Exists.intro;apply And.intro
   ·intro w9 _
    go_simp
    first | done | rfl
   simp only [sA,sB,sC];refine wpAnyH_ready (rs:=[4]) (by kernel_rfl) (by simp) ?_
   refine AllReadyH.cons rfl (fun K hK=>?_) AllReadyH.nil
   rw [if_pos (by rfl)]
   go_simp
   go_wp2_with (go_at_call 65; refine(HLE.out _).mono ?_; rintro e wl ⟨rfl,kl⟩)
   have V1:=hid (V0.out.kept kl);clear kl V0;refine hK.out _ _ ⟨_,V1.out⟩ (fun hH=>?_)
   clear hK K;refine wpAnyH_ready (rs:=[5]) (by kernel_rfl) (by simp) ?_
   refine AllReadyH.cons rfl (fun K hK=>?_) AllReadyH.nil
   rw [if_pos (by rfl)]
   go_simp
   go_wp2_with (go_at_call 39; refine(HH1.out _ V1.out.tab (HKW.out _ _ V1.out)).mono ?_; rintro e wm ⟨rfl,km⟩)
   have V2:=hid (V1.out.kept km);clear km V1;refine hK.out _ _ ⟨_,V2.out⟩ (fun hH=>?_)
   clear hK K;refine wpAnyH_ready (rs:=[6]) (by kernel_rfl) (by simp) ?_
   refine AllReadyH.cons rfl (fun K hK=>?_) AllReadyH.nil
   rw [if_pos (by rfl)]
   go_simp
   go_wp2_with (go_at_call 64; refine(HU1.out _ _ _ _ _ V2.out (by have:=HPL9.out; first | omega | (simp only [List.length_append]; omega))).mono ?_; rintro e w5 ⟨rfl,un⟩)
   have U5:=hid un;clear un V2;refine hK.out _ _ ⟨_,U5.out⟩ (fun hH=>?_)
   clear hK K;refine wpAnyH_done (by kernel_rfl) ?_ _
   refine NoPanic.normal ?_;clear hH
   go_upto_region 8 with fail
   have V0:=hid (U5.out.kept ((Kept.refl w5.heap.size w5.heap.size w5).drew));refine wp_region_noPanic ?_;refine wp_region_held_drew (S:=fun w'=>∃ s,Pu w2 base wb s w') (by kernel_rfl) (⟨_,V0.out⟩) (fun hH=>?_)
   refine wpAnyH_take_ex (i:=0) 40 rfl rfl (by kernel_rfl) (by kernel_rfl) (by kernel_rfl) (fun _ _ _ _ h=>h) (by kernel_rfl) hH ?_
   apply Exists.intro;apply And.intro
   ·intro w9 _
    go_simp
    first | done | rfl
   simp only [sA,sB,sC];refine wpAnyH_take_at (i:=1) 41 (.agg #[.slice lad ln lc,.slice (some ⟨pg,po,none⟩) pn pc]) rfl rfl (by kernel_rfl) (by kernel_rfl) (by kernel_rfl) (fun _ _ _ h=>h) (yieldsIf_load_known (by kernel_rfl) 27 _ rfl (tb) (0) rfl (.agg #[.slice lad ln lc,.slice (some ⟨pg,po,none⟩) pn pc]) (HLT.out)) hH ?_
   simp only [sA,sB,sC];refine wpAnyH_take_ex (i:=2) 42 rfl rfl (by kernel_rfl) (by kernel_rfl) (by kernel_rfl) (fun _ _ _ _ h=>h) (by kernel_rfl) hH ?_
   apply Exists.intro;apply And.intro
   ·intro w9 _
    go_simp
    first | done | rfl
   simp only [sA,sB,sC];refine wpAnyH_take_ex (i:=3) 43 rfl rfl (by kernel_rfl) (by kernel_rfl) (by kernel_rfl) (fun _ _ _ _ h=>h) (by kernel_rfl) hH ?_
   apply Exists.intro;apply And.intro
   ·intro w9 _
    go_simp
    first | done | rfl
   simp only [sA,sB,sC];refine wpAnyH_ready (rs:=[4]) (by kernel_rfl) (by simp) ?_
   refine AllReadyH.cons rfl (fun K hK=>?_) AllReadyH.nil
   rw [if_pos (by rfl)]
   go_simp
   go_wp2_with (go_at_call 66; refine(HRI.out _).mono ?_; rintro e wl ⟨rfl,kl⟩)
   have V1:=hid (V0.out.kept kl);clear kl V0;refine hK.out _ _ ⟨_,V1.out⟩ (fun hH=>?_)
   clear hK K;refine wpAnyH_ready (rs:=[5]) (by kernel_rfl) (by simp) ?_
   refine AllReadyH.cons rfl (fun K hK=>?_) AllReadyH.nil
   rw [if_pos (by rfl)]
   go_simp
   go_wp2_with (go_at_call 39; refine(HH2.out _ V1.out.tab (HKW.out _ _ V1.out)).mono ?_; rintro e wm ⟨rfl,km⟩)
   have V2:=hid (V1.out.kept km);clear km V1;refine hK.out _ _ ⟨_,V2.out⟩ (fun hH=>?_)
   clear hK K;refine wpAnyH_ready (rs:=[6]) (by kernel_rfl) (by simp) ?_
   refine AllReadyH.cons rfl (fun K hK=>?_) AllReadyH.nil
   rw [if_pos (by rfl)]
   go_simp
   go_wp2_with (go_at_call 64; refine(HU2.out _ _ _ _ _ V2.out (by have:=HPL9.out; first | omega | (simp only [List.length_append]; omega))).mono ?_; rintro e w7 ⟨rfl,un⟩)
   have U6:=hid un;clear un V2;refine hK.out _ _ ⟨_,U6.out⟩ (fun hH=>?_)
   clear hK K;refine wpAnyH_done (by kernel_rfl) ?_ _
   refine NoPanic.normal ?_;clear hH;obtain⟨ss,hss⟩:∃ ss,ss = str (pt ++ h1x ++ h2x):=⟨_,rfl⟩;have HWT:=hid (written_calls base wb (pt ++ h1x ++ h2x) w7 U6.out.wr);rw [← hss] at HWT;have HSS:=hid hss;clear hss
   go_upto_region 9 with fail
   refine wp_region_lit ?_;refine @wQ _ _ _ _ _ _ _ ?_ ?_;kernel_rfl;intro K hK;go_simp;refine hK _ _ ?_;clear hK K;refine @wQ _ _ _ _ _ _ _ ?_ ?_;kernel_rfl;intro K hK;go_simp;go_at_call 62
   refine(HWT.out).mono ?_;rintro e wx ⟨rfl,hwx⟩;subst wx;refine hK _ _ ?_;clear hK K;refine @wQ _ _ _ _ _ _ _ ?_ ?_;kernel_rfl;intro K hK;go_simp;refine hK _ _ ?_;clear hK K;refine @wQ _ _ _ _ _ _ _ ?_ ?_;kernel_rfl;intro K hK;go_simp;go_at_call 58
   refine(HSP.out _ _ ss HSS.out (heap_new w7 _)).mono ?_;rintro e w6 ⟨rfl,k6⟩;refine hK _ _ ?_;clear hK K;have u6:=(U6.out.kept ((Kept.refl w7.heap.size w7.heap.size w7).alloc (Nat.le_refl _) _)).kept k6;have R6:=hid (HRR.out _ _ u6);have K6:=hid (HKW.out _ _ u6);clear u6 k6;refine wpList_store_row rfl 35 _ _ rfl (rb) cu rfl rfl 35 zeros32 R6.out (info30 HCS.out) (by rw [HCS.out]; rfl) HALL.out ?_
   simp only [Act.put];have R7:=setRow_heap w6 rb _ cu _ _ R6.out;have K7:=hid (K6.out.grown (grown_setRow w6 rb cu) K6.out.size (fun k e=>by cases e; exact Nat.le_of_not_lt HRB.out))
   generalize w6.setRow rb cu = w8 at R7 K7 ⊢;go_wp2;refine bodyPost_ret (results_cell_row rfl _ _ rb 35 _ (0,0) _ rfl R7 Tryz.underlying35 rfl (info30 HCS.out)) rfl ?_
   exact⟨rfl,K7.out⟩
namespace Tt
def noneB:List UInt8:=[110,111,110,101]
def treeHash (L:List Lf)(P:List Pr):List UInt8:=if L.length = 0 then Sm.sum noneB else hashSeg L P L.length 0 L.length
theorem loose_in (L:List Lf)(b:Int):∀ (l:List Int) (f:Int),looseOk L b f l = true→∀ y∈l,f≤y∧y < b
 | [],_,_=>fun _ h=>nomatch h
 | x :: xs,f,h=>by
  unfold looseOk at h;simp only [Bool.and_eq_true,decide_eq_true_eq] at h;obtain⟨h1,h2,_,h3⟩:=h;intro y hy
  rcases List.mem_cons.1 hy with e | e
  ·omega
  ·have:=loose_in L b xs (x + 1) h3 y e; omega
theorem parents_in {L:List Lf}(hn:L.length≤64):∀ (P:List Pr) (i:Nat),parentsOk L i P = true→∀ p∈P,∀ y∈p.loose,0≤y∧y≤64
 | [],_,_=>fun _ h=>nomatch h
 | q :: P,i,h=>by
  unfold parentsOk at h;rw [Bool.and_eq_true] at h;intro p hp
  rcases List.mem_cons.1 hp with e | e
  ·have h1:=h.1
   unfold parentOk at h1;rw [e]
   split at h1
   ·have hb:=Bo.bounds L.length ((2 * i + 1:Nat):Int)
    intro y hy;have:=loose_in L _ _ _ h1 y hy
    omega
   ·simp only [Bool.and_eq_true,beq_iff_eq] at h1
    rw [List.length_eq_zero_iff.1 h1.2.2];exact fun _ h=>nomatch h
  ·exact parents_in hn P (i + 1) h.2 p e
theorem leaves_in:∀ (L:List Lf) (M:List Int),leavesOk M L = true→∀ l∈L,0≤l.name∧l.name≤64
 | [],_,_=>fun _ h=>nomatch h
 | l :: L,M,h=>by
  rw [leavesOk] at h;intro x hx
  by_cases hs:l.same Lf.zero = true
  ·rw [if_pos hs] at h
   rcases List.mem_cons.1 hx with e | e
   ·rw [e,Lf.same_iff.1 hs]
    exact⟨Int.le_refl _,by decide⟩
   ·exact leaves_in L M h x e
  ·rw [if_neg hs] at h
   simp only [Bool.and_eq_true,decide_eq_true_eq] at h;obtain⟨h1,h2,_,h4⟩:=h
   rcases List.mem_cons.1 hx with e | e
   ·rw [e]
    exact⟨by omega,h2⟩
   ·exact leaves_in L (l.name :: M) h4 x e
theorem fine_of {L:List Lf}{P:List Pr}(h:right L P = true):Fine L P:=by
 obtain⟨h1,h2,h3⟩:=right_parts h;have h4:=h;simp only [right,Bool.and_eq_true,decide_eq_true_eq] at h4;exact⟨h1,h2,leaves_in L [] h4.2.2.2.1,fun p hp=>Nat.le_trans (parents_loose h1 P 0 h3 p hp) (by decide),parents_in h1 P 0 h3⟩
end Tt
end Go.Proofs.YtaobiofngnfdiaaGreatDoor
