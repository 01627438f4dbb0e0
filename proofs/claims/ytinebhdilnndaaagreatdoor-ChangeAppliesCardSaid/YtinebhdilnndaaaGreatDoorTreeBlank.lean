/-
 The landed blankAbove.
-/
import Derived.Test.YtinebhdilnndaaaGreatDoorGY
import Derived.Test.YtinebhdilnndaaaGreatDoorHK
set_option maxRecDepth 100000
set_option maxHeartbeats 6400000
namespace Go.Proofs.YtinebhdilnndaaaGreatDoor
open Go.RowKit Go.Lib
open List renaming setIfInBounds_toArray -> sA, set_cons_zero -> sB, set_cons_succ -> sC
open BigFrame renaming wpList_want -> wQ
def Bo.odds (n a:Nat):Bool:=(Bo.ups n ((2 * a:Nat):Int)).all λy=>decide (0<=y) && (y.toNat % 2 == 1 && Nat.blt (y.toNat / 2) (n - 1))
theorem Bo.odds_all:((List.range 65).all λn=>(List.range n).all λa=>Bo.odds n a) = true:=by decide +kernel
theorem Bo.direct_odd {n:Nat}{a y:Int}(h:y∈Bo.Direct n a):∃ k:Nat,y = ((2 * k + 1:Nat):Int)/\k < n - 1:=by
 unfold Bo.Direct at h
 split at h
 ·rename_i hl
  simp only [Bo.leaf,Bool.and_eq_true,decide_eq_true_eq] at hl;obtain⟨⟨⟨h1,h2⟩,h3⟩,h4⟩:=hl;obtain⟨a,rfl⟩:∃ a':Nat,a = (a':Int):=⟨a.toNat,by omega⟩
  have h5:=List.all_eq_true.1 Bo.odds_all n (List.mem_range.2 (by omega))
  have h6:=List.all_eq_true.1 h5 a (List.mem_range.2 (by omega))
  rw [show(2:Int) * (a:Int) = ((2 * a:Nat):Int) by omega] at h
  have h7:=List.all_eq_true.1 h6 y h;simp only [Bool.and_eq_true,decide_eq_true_eq,beq_iff_eq,Nat.blt_eq] at h7;obtain⟨h8,h9,h10⟩:=h7;exact⟨y.toNat / 2,by omega,h10⟩
 ·cases h
theorem Bo.direct_len66 (n a:Int):(Bo.Direct n a).length<=66:=by
 unfold Bo.Direct
 split
 ·exact Bo.chain_length _ _
 ·exact Nat.zero_le _
namespace Tt
def blanks (ways:List Int)(P:List Pr):List Pr:=ways.foldl (λP y=>P.set (y.toNat / 2) Pr.zero) P
theorem blanks_length (ways:List Int):∀ P,(blanks ways P).length = P.length:=by
 unfold blanks
 induction ways with
 | nil=>intro P; rfl
 | cons y ys ih=>intro P; rw [List.foldl_cons,ih,List.length_set]
theorem blanks_next (ways:List Int)(P:List Pr)(i:Nat)(hi:i < ways.length):blanks (ways.take (i + 1)) P = (blanks (ways.take i) P).set (ways[i].toNat / 2) Pr.zero:=by
 unfold blanks;rw [List.take_succ_eq_append_getElem hi,List.foldl_append]
 rfl
end Tt
section
variable {B B':Nat->Prop} {w w1:World} {lv pv v:Value} {L:List Lf} {P:List Pr} {SL:List Value} {row:Option Nat}
theorem Mine.beside (h:Mine B w lv pv L P SL)(k:Kept w.heap.size w.heap.size w w1)(hv:∀ g,v.ownBlock = some g->w.heap.size<=g/\g < w1.heap.size):Mine (λk=>B k\/v.ownBlock = some k) w1 lv pv L P SL:=
 { h.kept k with
   ol:=λg e b=>b.elim (h.ol g e) (λe2=>by have:=(h.lo.2.lt g e).2; have:=(hv g e2).1; omega)
   op:=λg e b=>b.elim (h.op g e) (λe2=>by have:=(h.po.2.lt g e).2; have:=(hv g e2).1; omega)
   os:=λs hs g e b=>b.elim (h.os s hs g e) (λe2=>by
    obtain⟨i,hi,rfl⟩:=List.getElem_of_mem hs;have h2:=(h.so i (P[i]'(by rw [<- h.len]; exact hi)) _ (List.getElem?_eq_getElem _) (List.getElem?_eq_getElem hi)).lt g e
    have:=(hv g e2).1
    omega)
   bnd:=λk2 b=>b.elim (λb=>Nat.lt_of_lt_of_le (h.bnd k2 b) k.size) (λe=>(hv k2 e).2) }
end
theorem blankabove_calls (B:Nat->Prop)(lv pv:Value)(L:List Lf)(P:List Pr)(SL:List Value)(x:Int)(w:World)(h:Mine B w lv pv L P SL)(hn:L.length<=1000)(hp:P.length = L.length - 1):
  Calls Tryz.prog 86 #[.agg #[lv,pv],.int .i64 x] w λe w'=>e = .returned (.tuple #[])/\Frm B w w'/\∃ SL',Mine B w' lv pv L (Tt.blanks (Bo.Direct L.length x) P) SL':=by
 obtain⟨lad,lc,rfl⟩:=h.lvs.shape;obtain⟨pad,pc,rfl⟩:=h.pts.shape;have H1:=h.box (.cells #[.slice lad L.length lc,.slice pad P.length pc] 25)
 have F1:=(Frm.refl B w).alloc (.cells #[.slice lad L.length lc,.slice pad P.length pc] 25)
 have T1:=heap_new w (.cells #[.slice lad L.length lc,.slice pad P.length pc] 25)
 obtain⟨ws,hws⟩:∃ ws,ws = Bo.Direct L.length x:=⟨_,rfl⟩;have hwo:=λy (hy:y∈ws)=>Bo.direct_odd (n:=L.length) (a:=x) (by rw [<- hws]; exact hy)
 have hwl:=Bo.direct_len66 L.length x;have HD:=hid (λw=>direct_calls lenIs L.length x w)
 rw [<- hws] at HD hwl |-;obtain⟨ln,hln⟩:∃ ln,ln = L.length:=⟨_,rfl⟩;obtain⟨pn,hpn⟩:∃ pn,pn = P.length:=⟨_,rfl⟩;rw [<- hln,<- hpn] at hp;rw [<- hln] at hwo;rw [<- hln,<- hpn] at H1 F1 T1 |-;rw [<- hln] at HD;have hpn9:(pn:Int)<=1000:=by omega
 have HWO:=hid hwo;have HPN:=hid hpn;have HP:=hid hp;have HB:=hid h.bnd;clear h hpn hp hn hws hwo hln
 go_enter Tryz.func86,Tryz.ntmps86
 go_upto_region 1 with fail
 generalize w.alloc (.cells #[.slice lad ln lc,.slice pad pn pc] 25) = w1 at H1 F1 T1 |-
 obtain⟨tb,htb⟩:∃ tb,tb = w.heap.size:=⟨_,rfl⟩;rw [<- htb] at T1 H1
 (try rw [<- htb])
 have HTB:=hid (show ¬ tb < w.heap.size by omega)
 clear htb;have t0:=two_cell0 T1;refine wp_region_lit ?_;iterate 4 (refine wW λK hK=>?_;go_simp;apply hK;clear hK K)
 refine wW λK hK=>?_;go_simp;go_at_call 105
 refine(HD.out _).mono ?_;rintro e w2 ⟨v,rfl,hv,k2⟩;apply hK;clear hK K;obtain⟨wad,wc,rfl⟩:=(ints_nums hv).shape;have M2:=hid (H1.beside (v:=.slice wad ws.length wc) k2 (λg e=>hv.lt g e))
 have F2:=hid (F1.trans k2.fr);have T2:=hid (rk T1 k2);have V2:=hid (owns_lower hv (Nat.zero_le _));obtain⟨wn,hwn⟩:∃ wn,wn = ws.length:=⟨_,rfl⟩;rw [<- hwn] at M2 V2 hwl |-;have HWN:=hid hwn;have hwn9:(wn:Int)<=66:=by omega
 clear hv k2 H1 F1 T1 t0 hwn hwl;iterate 2 (refine wW λK hK=>?_;go_simp;apply hK;clear hK K)
 go_wp2
 go_loopw [12] (λs12 wr=>∃ i:Nat,s12 = .int .i64 (i:Int)/\Hid (i<=wn)/\∃ SL',Hid (Mine (λk=>(B k\/k = tb)\/(Value.slice wad wn wc).ownBlock = some k) wr (.slice lad ln lc) (.slice pad pn pc) L (Tt.blanks (ws.take i) P) SL')/\Hid (Frm B w wr)/\Hid (wr.heap[tb]? = some (.cells #[.slice lad ln lc,.slice pad pn pc] 25 (0,0)))/\Hid (wr.ownsRow 0 3 1 (.slice wad wn wc) wn (ws.map (Value.int .i64)))) (λs12 _=>wn - (RowKit.intOf s12).toNat)
 case atStart=>exact⟨0,rfl,hid (Nat.zero_le _),SL,M2,F2,T2,V2⟩
 case round=>
  obtain⟨i,rfl,hi,SL',HM,HF,HT,HV⟩:=hrel
  by_cases hlt:i < wn
  ·have hiw:i < ws.length:=by rw [<- HWN.out]; exact hlt
   have hlti:(i:Int) < (wn:Int):=by omega
   have hi0:¬ (i:Int) < 0:=by omega
   obtain⟨k,hk,hkn⟩:=HWO.out _ (List.getElem_mem hiw);have hnx:=Tt.blanks_next ws P i hiw;rw [hk] at hnx;rw [show((2 * k + 1:Nat):Int).toNat / 2 = k by omega] at hnx
   have hkp:k < (Tt.blanks (ws.take i) P).length:=by rw [Tt.blanks_length,<- HPN.out,HP.out]; exact hkn
   obtain⟨g,cap,hpv,hgb,hth,hm2,hg2⟩:=HM.out.blank k hkp;have hpl:(Tt.blanks (ws.take i) P).length = pn:=by rw [Tt.blanks_length,HPN.out]
   rw [hpl] at hpv;injection hpv with hpa _ hpc
   subst hpa; subst hpc;have hwn0:0 < wn:=by omega
   have hvo:=HV.out
   rcases hvo.2 with ⟨_,hn0⟩ | ⟨wg,wcap,cur,hwv,_,_,_⟩
   ·exact absurd hn0 (by omega)
   injection hwv with hwa _ hwc
   subst hwa; subst hwc;have hcell:=World.ownsRow.cells (g:=wg) hvo rfl i (.int .i64 (((2 * k + 1:Nat):Int))) (by rw [List.getElem?_map,List.getElem?_eq_getElem hiw,hk]; rfl)
   rw [Addr.add_lit,Nat.zero_add] at hcell;rw [<- hnx] at hm2;have hgt:g≠tb:=λe=>hgb (.inl (.inr e))
   have hgw:g≠wg:=λe=>hgb (.inr (by rw [e]; rfl))
   have M3:=hid hm2;have F3:=hid (HF.out.trans (grown_fr (B:=B) hg2 (λk2 e b=>by cases e; exact hgb (.inl (.inl b)))))
   have T3:=hid ((hg2.block tb (lt_of_block HT.out) (λe=>hgt (Option.some.inj e).symm)).trans HT.out)
   have V3:=hid (hvo.kept hg2 (.inr (λe=>hgw (Option.some.inj e).symm)))
   have HTH:=hid hth;have HLT:=hid hlt;have hkl:(k:Int) < (pn:Int):=by have:=HP.out; omega
   have hk0:¬ (k:Int) < 0:=by omega
   have HQ:=hid (show IntKind.i64.wrap (((2 * k + 1:Nat):Int).tdiv 2) = (k:Int) by
    rw [show((2 * k + 1:Nat):Int).tdiv 2 = (k:Int) by rw [Int.tdiv_eq_ediv_of_nonneg (by omega)]; omega]
    exact wrap_small _ (by omega) (by omega))
   obtain⟨y,hy⟩:∃ y,y = ((2 * k + 1:Nat):Int):=⟨_,rfl⟩;rw [<- hy] at HQ hcell;clear hlt hi hiw hk hkn hnx hkp hgb hth hm2 hg2 hpl hwn0 hvo hgt hgw hy HM HF HV;have t1:=two_cell1 HT.out
   go_upto_region 3 with fail
   refine wp_region_lit ?_;iterate 3 (refine wW λK hK=>?_;go_simp;apply hK;clear hK K)
   go_upto_region 4 with fail
   refine wp_region_lit ?_;iterate 4 (refine wW λK hK=>?_;go_simp;apply hK;clear hK K)
   rw [HQ.out];refine @wpL_build0 _ _ _ _ _ _ _ ?_ 68 rfl _ (build_parent0 _) ?_;kernel_rfl
   simp only [Act.put,sA,sB,sC];refine wW λK hK=>?_;go_simp;apply hK;clear hK K;refine @wpL_store_mid _ _ _ _ _ _ _ ?_ 68 _ _ rfl (g) (k * 66) (Pr.zero.cells (.slice none 0 0)).toArray rfl rfl (by rw [Pr.size Pr.zero_ok]; exact HTH.out) (parentInfo (Pr.size Pr.zero_ok _)) (Pr.all _ _ _ _) ?_;kernel_rfl
   simp only [Act.put];generalize wr.setCells g (k * 66) (Pr.zero.cells (.slice none 0 0)).toArray.toList = w5 at *;go_wp2
   go_roundw
   case rel=>exact⟨i + 1,by simp,hid HLT.out,_,M3,F3,T3,V3⟩
   case measure=>have:=HLT.out; simp [RowKit.intOf]; omega
  ·have hnl:¬ (i:Int) < (wn:Int):=by omega
   have HE:=hid (show i = wn by have:=hi.out; omega)
   clear hlt hi;go_wp2;refine bodyPost_end (results_none rfl _ _ _) rfl ?_;refine⟨rfl,HF.out,SL',?_⟩;have hm:=HM.out;rw [HE.out,HWN.out,List.take_length] at hm;exact hm.mono (λ_ b=>.inl (.inl b))
end Go.Proofs.YtinebhdilnndaaaGreatDoor
