/-
 TreeParBuild; TreeKeys; TreeSaid; TreeRefSaid; TreePathMath; TreePathNo: several texts in one.
-/
import Derived.Test.YtlpabcnhcbgfjaaGY
import Derived.Test.YtlpabcnhcbgfjaaGX
import Derived.Test.YtlpabcnhcbgfjaaKA
import Derived.Test.YtlpabcnhcbgfjaaKD
import Derived.Test.YtlpabcnhcbgfjaaGD
import Derived.Test.YtlpabcnhcbgfjaaHK
import Derived.Test.YtlpabcnhcbgfjaaTreeBlank
import Derived.Test.YtlpabcnhcbgfjaaHI
import Derived.Test.YtlpabcnhcbgfjaaHD
import Derived.Test.YtlpabcnhcbgfjaaHF
import Derived.Test.YtlpabcnhcbgfjaaTreeJoin
import Derived.Test.YtlpabcnhcbgfjaaHA
import Derived.Great.BuildSlice
set_option maxRecDepth 100000
set_option maxHeartbeats 6400000
namespace Go.Proofs.Ytlpabcnhcbgfjaa
open Go.RowKit Go.Lib
open List renaming setIfInBounds_toArray → sA, set_cons_zero → sB, set_cons_succ → sC
open BigFrame renaming wpList_want → wQ
theorem list32_8 {p:List UInt8→Prop}(h:∀ b0 b1 b2 b3 b4 b5 b6 b7 b8 b9 b10 b11 b12 b13 b14 b15 b16 b17 b18 b19 b20 b21 b22 b23 b24 b25 b26 b27 b28 b29 b30 b31,p [b0,b1,b2,b3,b4,b5,b6,b7,b8,b9,b10,b11,b12,b13,b14,b15,b16,b17,b18,b19,b20,b21,b22,b23,b24,b25,b26,b27,b28,b29,b30,b31]):∀ l:List UInt8,l.length = 32→p l:=fun l hl=>
 match l,hl with
 | [b0,b1,b2,b3,b4,b5,b6,b7,b8,b9,b10,b11,b12,b13,b14,b15,b16,b17,b18,b19,b20,b21,b22,b23,b24,b25,b26,b27,b28,b29,b30,b31],_=>h b0 b1 b2 b3 b4 b5 b6 b7 b8 b9 b10 b11 b12 b13 b14 b15 b16 b17 b18 b19 b20 b21 b22 b23 b24 b25 b26 b27 b28 b29 b30 b31
theorem build_parent8 (w:World)(k s:List UInt8)(hk:k.length = 32)(hs:s.length = 32):
  (Instr.build 62 #[(0,.bool true),(1,.agg (bcells k).toArray),(2,.agg (bcells s).toArray)]).run Try.prog w = .ok (.agg (Pr.cells ⟨true,k,s,[]⟩ (.slice none 0 0)).toArray) w:=by
 revert k
 refine list32_8 ?_;intro a0 a1 a2 a3 a4 a5 a6 a7 a8 a9 a10 a11 a12 a13 a14 a15 a16 a17 a18 a19 a20 a21 a22 a23 a24 a25 a26 a27 a28 a29 a30 a31
 revert s
 refine list32_8 ?_;intro b0 b1 b2 b3 b4 b5 b6 b7 b8 b9 b10 b11 b12 b13 b14 b15 b16 b17 b18 b19 b20 b21 b22 b23 b24 b25 b26 b27 b28 b29 b30 b31;kernel_rfl
namespace Tt
def keyN (x:UInt8)(i:Nat):List UInt8:=x :: UInt8.ofNat i :: List.replicate 30 0
def keysN (x:UInt8)(m:Nat):List (List UInt8):=(List.range m).map (keyN x)
def keysOf (x:UInt8)(m:Nat):List (List UInt8):=keysN x m ++ (if 200≤x.toNat then [keyN x 0] else [])
theorem keysN_next (x:UInt8)(m:Nat):keysN x (m + 1) = keysN x m ++ [keyN x m]:=by rw [keysN,List.range_succ,List.map_append]; rfl
theorem keysN_length (x:UInt8)(m:Nat):(keysN x m).length = m:=by rw [keysN,List.length_map,List.length_range]
end Tt
theorem build_keyN (x y:UInt8)(w:World):(Instr.build 34 #[(0,.int .u8 (x.toNat:Int)),(1,.int .u8 (y.toNat:Int))]).run Try.prog w = .ok (.agg (bcells (x :: y :: List.replicate 30 0)).toArray) w:=by kernel_rfl
theorem build_key0 (x:UInt8)(w:World):(Instr.build 34 #[(0,.int .u8 (x.toNat:Int))]).run Try.prog w = .ok (.agg (bcells (Tt.keyN x 0)).toArray) w:=by kernel_rfl
theorem ownh_shape {w:World}{base:Nat}{v:Value}{M:List (List UInt8)}(h:OwnH w base v M):∃ ad c,v = .slice ad M.length c:=by
 obtain⟨_,ad,_,_,c,hv,_⟩:=h.hs;exact⟨ad,c,hv⟩
theorem append_key {w:World}{base:Nat}{v:Value}{M:List (List UInt8)}(h:OwnH w base v M)(hb:base≤w.heap.size)(k:List UInt8)(hk:k.length = 32)(hl:M.length < 1000000):
  ∃ ad c w',(Builtin.append_ #[54,54] 54 #[v,.slice (some ⟨w.heap.size,0,none⟩) 1 1]).run Try.prog (w.alloc (.cells (bcells k).toArray 34)) = .ok (.slice ad (M.length + 1) c) w'∧OwnH w' base (.slice ad (M.length + 1) c) (M ++ [k])∧Kept base base w w':=by
 have hs:base≤(w.alloc (.cells (bcells k).toArray 34)).heap.size:=by simp; omega
 obtain⟨v',w',h1,h2,h3⟩:=append_hash _ base v M (h.alloc _) hs w.heap.size 1 k hk (fun j u hu=>by
  rw [cell_of_row _ w.heap.size (0 + j) _ _ _ (heap_new w _),Nat.zero_add,List.getElem?_toArray]
  exact hu) (by omega)
 obtain⟨ad,c,rfl⟩:=ownh_shape h2;rw [List.length_append] at h1 h2;exact⟨ad,c,w',h1,h2,(((Kept.refl base base w).alloc hb _).grown h3 hs (fun q hq=>(h.low q hq).1))⟩
theorem keys_calls8 (lad pad:Option Addr)(ln lc pn pc m:Nat)(x:UInt8)(place:Int)(hm:(Bo.Direct (ln:Int) place).length = m)(w:World):
  Calls Try.prog 17 #[.agg #[.slice lad ln lc,.slice pad pn pc],.int .i64 place,.int .u8 (x.toNat:Int)] w fun e w'=>∃ u,e = .returned u∧OwnH w' w.heap.size u (Tt.keysOf x m)∧Kept w.heap.size w.heap.size w w':=by
 have HM9:=hid (show m≤66 by rw [← hm]; exact Bo.direct_len66 _ _)
 have HRD:=hid (fun(u:World)=>(show Calls Try.prog 45 #[.int .i64 (ln:Int),.int .i64 place] u fun e u'=>∃ ad c,e = .returned (.slice ad m c)∧Kept u.heap.size u.heap.size u u' from(rdirect_calls (ln:Int) place u).mono fun e u' ⟨v,h1,h2,h3⟩=>by
  obtain⟨ad,c,rfl⟩:=h2.len;rw [hm] at h1
  exact⟨ad,c,h1,h3⟩))
 obtain⟨i0,z0,hi0,hz0,hzs0,hs0,hb0⟩:=hash_info;have HB1:=hid (fun(cs:Array Value) (h:cs.size = 32) (u:World)=>run_build_one (P:=Try.prog) u 54 34 i0 z0 Try.underlying54 hi0 hz0 cs (by rw [hs0]; exact h) (by rw [hs0]; decide) (by rw [hs0]; decide))
 clear hm hi0 hz0 hzs0 hs0 hb0
 go_enter Try.func17,Try.ntmps17
 go_upto_region 0 with fail
 refine wp_region_lit ?_;refine @wQ _ _ _ _ _ _ _ ?_ ?_;kernel_rfl;intro K hK;go_simp;refine hK _ _ ?_;clear hK K;have K1:=hid (kA w (.cells #[.slice lad ln lc,.slice pad pn pc] 27))
 have T1:=hid (heap_new w (.cells #[.slice lad ln lc,.slice pad pn pc] 27))
 generalize w.alloc (.cells #[.slice lad ln lc,.slice pad pn pc] 27) = w1 at K1 T1 ⊢
 obtain⟨tb,htb⟩:∃ tb,tb = w.heap.size:=⟨_,rfl⟩;rw [← htb] at T1
 (try rw [← htb])
 have HLL:=hid (fun(u:World) (k:Kept w1.heap.size w1.heap.size w1 u)=>load_slice (d:=.int .u8) (two_cell0 (row_kept T1.out k)) (.inl rfl) rfl)
 clear htb;go_wp2
 go_loopw [7,8] (fun s7 s8 wr=>∃ i:Nat,∃ v:Value,s7 = v∧s8 = .int .i64 (i:Int)∧Hid (i≤m)∧Hid (Kept w1.heap.size w1.heap.size w1 wr)∧Hid (OwnH wr w1.heap.size v (Tt.keysN x i))) (fun _ s8 _=>m - (RowKit.intOf s8).toNat)
 case atStart=>exact⟨0,_,rfl,rfl,hid (Nat.zero_le _),hid (Kept.refl _ _ _),hid (OwnH.nil _ _)⟩
 case round=>
  obtain⟨i,v,rfl,rfl,hi,HK,HO⟩:=hrel;obtain⟨vad,vc,rfl⟩:=ownh_shape HO.out;rw [Tt.keysN_length] at HO ⊢;have him:=hi.out;have hm9:=HM9.out
  by_cases hlt:i < m
  ·have hlti:(i:Int) < (m:Int):=by omega
   have HLT:=hid hlt;clear hlt
   go_upto_region 3 with fail
   refine wp_region_lit ?_;iterate 2 (refine @wQ _ _ _ _ _ _ _ ?_ ?_;kernel_rfl;intro K hK;go_simp;refine hK _ _ ?_;clear hK K)
   refine @wpList_load_known _ _ _ _ _ _ _ ?_ 24 (.tmp 10) rfl (tb) (0) rfl (.slice lad ln lc) (HLL.out _ HK.out) ?_;kernel_rfl
   simp only [Act.put,sA,sB,sC];iterate 2 (refine @wQ _ _ _ _ _ _ _ ?_ ?_;kernel_rfl;intro K hK;go_simp;refine hK _ _ ?_;clear hK K)
   refine @wQ _ _ _ _ _ _ _ ?_ ?_;kernel_rfl;intro K hK;go_simp;go_at_call 45
   refine(HRD.out _).mono ?_;rintro e w3 ⟨dad,dc,rfl,k3⟩;have K3:=hid (HK.out.onto k3);have O3:=hid (HO.out.kept k3 (Nat.le_refl _));clear k3;refine hK _ _ ?_;clear hK K;iterate 2 (refine @wQ _ _ _ _ _ _ _ ?_ ?_;kernel_rfl;intro K hK;go_simp;refine hK _ _ ?_;clear hK K)
   obtain⟨y,hy⟩:∃ y,y = UInt8.ofNat i:=⟨_,rfl⟩;have HBY:=hid (show IntKind.u8.wrap (i:Int) = (y.toNat:Int) by rw [hy,UInt8.toNat_ofNat',show IntKind.u8.wrap (i:Int) = (i:Int) % 256 by rfl]; omega)
   obtain⟨kc,hkc⟩:∃ t,t = (bcells (Tt.keyN x i)).toArray:=⟨_,rfl⟩;have HBK:=hid (fun u=>build_keyN x y u)
   rw [hy,show(bcells (x :: UInt8.ofNat i :: List.replicate 30 0)).toArray = kc from hkc.symm,← hy] at HBK;have HKZ:=hid (show kc.size = 32 by rw [hkc,List.size_toArray,bcells_length]; rfl)
   obtain⟨uad,uc,w5,hap,ho5,k5⟩:=append_key O3.out K3.out.size (Tt.keyN x i) rfl (by rw [Tt.keysN_length]; omega)
   rw [Tt.keysN_length] at hap ho5;rw [← Tt.keysN_next] at ho5;rw [← hkc] at hap;have AP5:=hid hap;have O5:=hid ho5;have K5:=hid (K3.out.trans k5);clear hap ho5 k5 hy hkc O3 K3 HO HK
   go_upto_region 5 with fail
   refine wp_region_lit ?_;iterate 4 (refine @wQ _ _ _ _ _ _ _ ?_ ?_;kernel_rfl;intro K hK;go_simp;refine hK _ _ ?_;clear hK K)
   rw [HBY.out];refine @wpL_buildN _ _ _ _ _ _ _ ?_ 34 _ rfl #[(0,.int .u8 (x.toNat:Int)),(1,.int .u8 (y.toNat:Int))] (by simp only [List.map_toArray,List.map_cons,List.map_nil]; rfl) _ (HBK.out _) ?_;kernel_rfl
   simp only [Act.put,sA,sB,sC];refine @wpL_sliceN _ _ _ _ _ _ _ _ ?_ 54 1 _ rfl #[(0,.agg kc)] (by simp only [List.map_toArray,List.map_cons,List.map_nil]; rfl) _ (HB1.out kc (HKZ.out) _) ?_;kernel_rfl
   simp only [Act.put,sA,sB,sC];refine wpList_append_known rfl (.tmp 19) (.tmp 24) 54 54 54 rfl rfl _ _ rfl rfl AP5.out ?_
   simp only [Act.put,sA,sB,sC];refine @wQ _ _ _ _ _ _ _ ?_ ?_;kernel_rfl;intro K hK;go_simp;refine hK _ _ ?_;clear hK K;go_wp2
   go_roundw
   case rel=>exact⟨i + 1,_,rfl,by go_num,hid HLT.out,K5,O5⟩
   case measure=>have:=HLT.out; simp [RowKit.intOf]; omega
  ·have hnl:¬ (i:Int) < (m:Int):=by omega
   obtain rfl:i = m:=by omega
   clear hlt hi
   go_upto_region 3 with fail
   refine wp_region_lit ?_;iterate 2 (refine @wQ _ _ _ _ _ _ _ ?_ ?_;kernel_rfl;intro K hK;go_simp;refine hK _ _ ?_;clear hK K)
   refine @wpList_load_known _ _ _ _ _ _ _ ?_ 24 (.tmp 10) rfl (tb) (0) rfl (.slice lad ln lc) (HLL.out _ HK.out) ?_;kernel_rfl
   simp only [Act.put,sA,sB,sC];iterate 2 (refine @wQ _ _ _ _ _ _ _ ?_ ?_;kernel_rfl;intro K hK;go_simp;refine hK _ _ ?_;clear hK K)
   refine @wQ _ _ _ _ _ _ _ ?_ ?_;kernel_rfl;intro K hK;go_simp;go_at_call 45
   refine(HRD.out _).mono ?_;rintro e w3 ⟨dad,dc,rfl,k3⟩;have K3:=hid (HK.out.onto k3);have O3:=hid (HO.out.kept k3 (Nat.le_refl _));clear k3;refine hK _ _ ?_;clear hK K;iterate 2 (refine @wQ _ _ _ _ _ _ _ ?_ ?_;kernel_rfl;intro K hK;go_simp;refine hK _ _ ?_;clear hK K)
   by_cases hx:200≤x.toNat
   ·have hd:decide ((x.toNat:Int)≥200) = true:=decide_eq_true (by omega)
    have HKO:=hid (show Tt.keysOf x i = Tt.keysN x i ++ [Tt.keyN x 0] by rw [Tt.keysOf,if_pos hx])
    obtain⟨kc,hkc⟩:∃ t,t = (bcells (Tt.keyN x 0)).toArray:=⟨_,rfl⟩;have HBK:=hid (fun u=>build_key0 x u)
    rw [← hkc] at HBK;have HKZ:=hid (show kc.size = 32 by rw [hkc,List.size_toArray,bcells_length]; rfl)
    obtain⟨uad,uc,w5,hap,ho5,k5⟩:=append_key O3.out K3.out.size (Tt.keyN x 0) rfl (by rw [Tt.keysN_length]; omega)
    rw [Tt.keysN_length] at hap;rw [← hkc] at hap;have AP5:=hid hap;have O5:=hid ho5;have K5:=hid (K3.out.trans k5);clear hap ho5 k5 hkc O3 K3 HO HK hx
    go_upto_region 7 with fail
    refine wp_region_lit ?_;iterate 2 (refine @wQ _ _ _ _ _ _ _ ?_ ?_;kernel_rfl;intro K hK;go_simp;refine hK _ _ ?_;clear hK K)
    refine @wpL_buildN _ _ _ _ _ _ _ ?_ 34 _ rfl #[(0,.int .u8 (x.toNat:Int))] (by simp only [List.map_toArray,List.map_cons,List.map_nil]; rfl) _ (HBK.out _) ?_;kernel_rfl
    simp only [Act.put,sA,sB,sC];refine @wpL_sliceN _ _ _ _ _ _ _ _ ?_ 54 1 _ rfl #[(0,.agg kc)] (by simp only [List.map_toArray,List.map_cons,List.map_nil]; rfl) _ (HB1.out kc (HKZ.out) _) ?_;kernel_rfl
    simp only [Act.put,sA,sB,sC];refine wpList_append_known rfl (.tmp 28) (.tmp 31) 54 54 54 rfl rfl _ _ rfl rfl AP5.out ?_
    simp only [Act.put,sA,sB,sC];refine @wQ _ _ _ _ _ _ _ ?_ ?_;kernel_rfl;intro K hK;go_simp;refine hK _ _ ?_;clear hK K;go_wp2;go_ret;refine⟨_,rfl,?_,K1.out.onto K5.out⟩;rw [HKO.out];have:=O5.out.mono (K1.out.size);rw [Tt.keysN_length] at this;exact this
   ·have hd:decide ((x.toNat:Int)≥200) = false:=decide_eq_false (by omega)
    have HKO:=hid (show Tt.keysOf x i = Tt.keysN x i by rw [Tt.keysOf,if_neg hx,List.append_nil])
    clear hx;go_wp2;go_ret;refine⟨_,rfl,?_,K1.out.onto K3.out⟩;rw [HKO.out];exact O3.out.mono (K1.out.size)
namespace Tt
def aboveB:List UInt8:=[97,98,111,118,101]
def saidOf (k s h:List UInt8):List UInt8:=Sm.sum (aboveB ++ k ++ s ++ h)
theorem saidOf_len (k s h:List UInt8):(saidOf k s h).length = 32:=sum_len32 _
end Tt
namespace Tt
def said (ks:List (List UInt8))(H:Nat→List UInt8):Nat→Nat→List UInt8
 | 0,_=>List.replicate 32 0
 | d + 1,j=>saidOf (ks.getD j []) (said ks H d (j + 1)) (H j)
theorem said_len (ks:List (List UInt8))(H:Nat→List UInt8)(d j:Nat):(said ks H d j).length = 32:=by
 cases d with
 | zero=>rfl
 | succ d=>exact saidOf_len _ _ _
end Tt
theorem alloc_arr32 (w:World):(Instr.alloc 33 true (.tuple #[])).run Try.prog w = .ok (.pointer (some ⟨w.heap.size,0,none⟩)) (w.alloc (.cells zeros32 33)):=by
 rw [← zeros32_eq];kernel_rfl
theorem refsaid_calls (L:List Lf)(P:List Pr)(lv pv wv kv:Value)(place:Int)(hp0:0≤place)(hp1:place≤1000)(ws:List Int)(ks:List (List UInt8))(hks:ks.length = ws.length)(hws:ws.length≤1000)(X B:Nat→Int)(H:Nat→List UInt8)(hX0:X 0 = 2 * place)(hX:∀ j (hj:j < ws.length),X (j + 1) = ws[j])(hH:∀ j,(H j).length = 32)
  (hB:∀ j,j < ws.length→∀ u,Calls Try.prog 62 #[.int .i64 (L.length:Int),.int .i64 (X j)] u fun e u'=>e = .returned (.int .i64 (B j))∧u' = u)
  (hHA:∀ j,j < ws.length→∀ u,Lvs u lv L→Pts u pv P→Calls Try.prog 61 #[.agg #[lv,pv],.int .i64 (B j)] u fun e u'=>e = .returned (.agg (bcells (H j)).toArray)∧Kept u.heap.size u.heap.size u u') :
  ∀ (d j:Nat),j + d = ws.length→∀ (w:World),Lvs w lv L→Pts w pv P→Nums w wv ws→Hs w kv ks →
  Calls Try.prog 46 #[.agg #[lv,pv],.int .i64 place,wv,kv,.int .i64 ((j:Int) - 1)] w fun e w'=>e = .returned (.agg (bcells (Tt.said ks H d j)).toArray)∧Kept w.heap.size w.heap.size w w':=by
 intro d
 induction d with
 | zero=>
  intro j hj w hL hP hW hK;obtain⟨lad,lc,rfl⟩:=hL.shape;obtain⟨pad,pc,rfl⟩:=hP.shape;obtain⟨wad,wc,rfl⟩:=hW.shape;obtain⟨_,kad,kg,ko,kc,rfl,_⟩:=hK;obtain⟨ln,hln⟩:∃ ln,ln = L.length:=⟨_,rfl⟩;obtain⟨pn,hpn⟩:∃ pn,pn = P.length:=⟨_,rfl⟩;obtain⟨wn,hwn⟩:∃ wn,wn = ws.length:=⟨_,rfl⟩;obtain⟨kn,hkn⟩:∃ kn,kn = ks.length:=⟨_,rfl⟩;obtain⟨vi,hvi⟩:∃ vi:Int,vi = (j:Int) - 1:=⟨_,rfl⟩
  have HW1:=hid (show IntKind.i64.wrap ((wn:Int) - 1) = vi by
   rcases Nat.eq_zero_or_pos wn with h0 | h0
   ·rw [show(wn:Int) - 1 = -1 by omega,show vi = -1 by omega]; rfl
   ·rw [show(wn:Int) - 1 = vi by omega]; exact wrap_small _ (by omega) (by omega))
  rw [← hln,← hpn,← hwn,← hkn,← hvi];show Calls _ _ _ _ (fun e w'=>e = .returned (.agg zeros32)∧Kept w.heap.size w.heap.size w w')
  clear hL hP hW hln hpn hwn hkn hvi hj hB hHA hX hX0 hH hks hws hp0 hp1;have k1:=kA w (.cells #[.slice lad ln lc,.slice pad pn pc] 27)
  have t1:=heap_new w (.cells #[.slice lad ln lc,.slice pad pn pc] 27)
  have s1:(w.alloc (.cells #[.slice lad ln lc,.slice pad pn pc] 27)).heap.size = w.heap.size + 1:=by simp
  go_enter Try.func46,Try.ntmps46
  go_upto_region 1 with fail
  rw [zeros32_eq];generalize w.alloc (.cells #[.slice lad ln lc,.slice pad pn pc] 27) = wa at k1 t1 s1 ⊢
  have k2:=kA wa (.cells zeros32 33)
  have r2:=heap_new wa (.cells zeros32 33)
  have t2:=rk t1 k2;generalize wa.alloc (.cells zeros32 33) = w1 at k2 r2 t2 ⊢
  have K1:=hid (k1.next1 k2);rw [s1] at r2
  (try rw [s1])
  obtain⟨tb,htb⟩:∃ tb,tb = w.heap.size:=⟨_,rfl⟩;obtain⟨rb,hrb⟩:∃ rb,rb = w.heap.size + 1:=⟨_,rfl⟩;rw [← hrb] at r2
  (try rw [← hrb])
  rw [← htb] at t2
  (try rw [← htb])
  have HTR:=hid (show tb≠rb by omega)
  have HRB:=hid (show ¬ rb < w.heap.size by omega)
  have T1:=hid t2;have R1:=hid r2;clear k1 t1 s1 k2 r2 t2 htb hrb;refine wp_region_lit ?_;iterate 4 (refine @wQ _ _ _ _ _ _ _ ?_ ?_;kernel_rfl;intro K hK;go_simp;refine hK _ _ ?_;clear hK K)
  rw [HW1.out];refine @wQ _ _ _ _ _ _ _ ?_ ?_;kernel_rfl;intro K hK;go_simp;refine hK _ _ ?_;clear hK K
  go_upto_region 2 with fail
  refine wp_region_lit ?_;refine @wQ _ _ _ _ _ _ _ ?_ ?_;kernel_rfl;intro K hK;go_simp;refine hK _ _ ?_;clear hK K
  (try rw [zeros32_eq])
  refine wpList_store_row rfl 33 _ _ rfl (rb) zeros32 rfl rfl 33 zeros32 R1.out (info32 zeros32_size) rfl zeros32_all ?_
  simp only [Act.put];have R2:=setRow_heap w1 rb _ zeros32 _ _ R1.out;have K2:=hid (K1.out.grown (grown_setRow w1 rb zeros32) K1.out.size (fun k e=>by cases e; exact Nat.le_of_not_lt HRB.out))
  generalize w1.setRow rb zeros32 = w2 at R2 K2 ⊢;go_wp2;refine bodyPost_ret (results_cell_row rfl _ _ rb 33 _ (0,0) _ rfl R2 Try.underlying33 rfl (info32 zeros32_size)) rfl ?_
  exact⟨rfl,K2.out⟩
 | succ d ih=>
  intro j hj w hL hP hW hK;have hjn:j < ws.length:=by omega
  have hjk:j < ks.length:=by omega
  have hsl:=Tt.said_len ks H d (j + 1);have hkl:ks[j].length = 32:=hK.1 _ (List.getElem_mem hjk);have hget:ks.getD j [] = ks[j]:=by rw [List.getD_eq_getElem?_getD,List.getElem?_eq_getElem hjk]; rfl
  have hsaid:Tt.said ks H (d + 1) j = Tt.saidOf ks[j] (Tt.said ks H d (j + 1)) (H j):=by rw [Tt.said,hget]
  rw [hsaid];have HIH:=hid (fun(u:World) (kk:Kept w.heap.size w.heap.size w u)=>ih (j + 1) (by omega) u (hL.kept kk) (hP.kept kk) (hW.kept kk) (hK.kept kk))
  have HHX:=hid (fun(u:World) (kk:Kept w.heap.size w.heap.size w u)=>hHA j hjn u (hL.kept kk) (hP.kept kk))
  have HBS:=hid (fun(u:World)=>hB j hjn u)
  obtain⟨k,hk⟩:∃ k,k = ks[j]:=⟨_,rfl⟩;obtain⟨s,hs⟩:∃ s,s = Tt.said ks H d (j + 1):=⟨_,rfl⟩;obtain⟨h,hh⟩:∃ h,h = H j:=⟨_,rfl⟩;have hhl:h.length = 32:=by rw [hh]; exact hH j
  rw [← hk] at hkl ⊢;rw [← hs] at hsl HIH ⊢;rw [← hh] at HHX ⊢;obtain⟨B0,hB0⟩:∃ b,b = B j:=⟨_,rfl⟩;obtain⟨x,hx⟩:∃ x,x = X j:=⟨_,rfl⟩;rw [← hB0] at HHX HBS;rw [← hx] at HBS;have HT1:=hid (fun u=>text_calls8 k hkl u)
  have HT2:=hid (fun u=>text_calls8 s hsl u)
  have HT3:=hid (fun u=>text_calls8 h hhl u)
  obtain⟨tk,htk⟩:∃ t,t = str k:=⟨_,rfl⟩;obtain⟨ts,hts⟩:∃ t,t = str s:=⟨_,rfl⟩;obtain⟨th,hth⟩:∃ t,t = str h:=⟨_,rfl⟩;rw [← htk] at HT1;rw [← hts] at HT2;rw [← hth] at HT3;have z1:tk.size = 32:=by rw [htk,str_size]; exact hkl
  have z2:ts.size = 32:=by rw [hts,str_size]; exact hsl
  have z3:th.size = 32:=by rw [hth,str_size]; exact hhl
  have Q0:=hid (show ¬ 9223372036854775807 < 5 + tk.size by omega)
  have Q1:=hid (show ¬ 9223372036854775807 < 5 + tk.size + ts.size by omega)
  have Q2:=hid (show ¬ 9223372036854775807 < 5 + tk.size + ts.size + th.size by omega)
  have HSM:=hid (fun u=>refsum_str (⟨#[97,98,111,118,101]⟩ ++ tk ++ ts ++ th) (Tt.aboveB ++ k ++ s ++ h) (by rw [htk,hts,hth,← str_append,← str_append,← str_append]; rfl) (by simp only [List.length_append,hkl,hsl,hhl]; decide) u)
  rw [show Sm.sum (Tt.aboveB ++ k ++ s ++ h) = Tt.saidOf k s h from rfl] at HSM;have HCS:=hid (show(bcells (Tt.saidOf k s h)).toArray.size = 32 by rw [List.size_toArray,bcells_length,Tt.saidOf_len])
  have HALL:=hid (bcells_all (Tt.saidOf k s h));obtain⟨cu,hcu⟩:∃ cu,cu = (bcells (Tt.saidOf k s h)).toArray:=⟨_,rfl⟩;rw [← hcu] at HSM HCS HALL ⊢;have HDH:=hid (show(bcells h).toArray.size = 32 by rw [List.size_toArray,bcells_length,hhl])
  have HDA:=hid (bcells_all h);obtain⟨dk,hdk⟩:∃ d,d = (bcells k).toArray:=⟨_,rfl⟩;obtain⟨ds,hds⟩:∃ d,d = (bcells s).toArray:=⟨_,rfl⟩;obtain⟨dh,hdh⟩:∃ d,d = (bcells h).toArray:=⟨_,rfl⟩;obtain⟨_,kad,kg,ko,kc,rfl,hkc⟩:=hK;obtain⟨rfl,hkg,hkr⟩:=hkc j hjk;rw [← hk] at hkr;have HLK:=hid (fun(u:World) (kk:Kept w.heap.size w.heap.size w u)=>run_loadVar_mid u kg (ko + j * 32) 34 (bcells k) _ (rangeAt_kept kk hkr hkg (Nat.ne_of_lt hkg)) Try.underlying34 rfl (by rw [bcells_length,hkl]; kernel_rfl))
  rw [← hdk] at HT1 HLK;rw [← hds] at HT2 HIH;rw [← hdh] at HT3 HHX HDH HDA;obtain⟨lad,lc,rfl⟩:=hL.shape;obtain⟨pad,pc,rfl⟩:=hP.shape;obtain⟨wad,wc,wg,wo,rfl,hwc⟩:=hW;obtain⟨ln,hln⟩:∃ ln,ln = L.length:=⟨_,rfl⟩;obtain⟨pn,hpn⟩:∃ pn,pn = P.length:=⟨_,rfl⟩;obtain⟨wn,hwn⟩:∃ wn,wn = ws.length:=⟨_,rfl⟩;obtain⟨kn,hkn⟩:∃ kn,kn = ks.length:=⟨_,rfl⟩;obtain⟨vi,hvi⟩:∃ vi:Int,vi = (j:Int) - 1:=⟨_,rfl⟩;obtain⟨m1,hm1⟩:∃ m1:Int,m1 = (wn:Int) - 1:=⟨_,rfl⟩;rw [show(((j + 1:Nat):Int) - 1) = (j:Int) by omega] at HIH
  have HW1:=hid (show IntKind.i64.wrap ((wn:Int) - 1) = m1 by rw [wrap_small _ (by omega) (by omega)]; omega)
  have HW2:=hid (show IntKind.i64.wrap (vi + 1) = (j:Int) by rw [wrap_small _ (by omega) (by omega)]; omega)
  have hne:(vi == m1) = false:=by rw [beq_eq_false_iff_ne]; omega
  have HJK:=hid (show(j:Int) < (kn:Int) by omega)
  have HJ0:=hid (show ¬ (j:Int) < 0 by omega)
  obtain⟨pl,hpl⟩:∃ pl:Int,pl = 2 * place:=⟨_,rfl⟩;have HW3:=hid (show IntKind.i64.wrap (2 * place) = pl by rw [wrap_small _ (by omega) (by omega)]; omega)
  rw [← hln,← hpn,← hwn,← hkn] at HIH;rw [← hln,← hpn] at HHX;rw [← hln] at HBS;rw [← hln,← hpn,← hwn,← hkn,← hvi]
  have HCX:=hid (show(vi < 0∧x = pl)∨(0≤vi∧vi < (wn:Int)∧wad = some ⟨wg,wo,none⟩∧∀ u,Kept w.heap.size w.heap.size w u→u.cell? ⟨wg,wo + vi.toNat,none⟩ = some (.int .i64 x)) by
   cases j with
   | zero=>exact .inl ⟨by omega,by rw [hx,hX0,hpl]⟩
   | succ j'=>
    have hj':j' < ws.length:=by omega
    obtain⟨e1,e2,e3⟩:=hwc j' hj';have e4:vi.toNat = j':=by omega
    exact .inr ⟨by omega,by omega,e1,fun u kk=>by rw [hx,hX j' hj',e4]; exact(kk.cell (p:=⟨wg,wo + j',none⟩) e2 (Nat.ne_of_lt e2)).trans e3⟩)
  have HVI:=hid hvi;clear ih hjn hjk hsl hkl hget hsaid hk hs hh hhl hB0 hx htk hts hth z1 z2 z3 hcu hdk hds hdh hkc hkg hkr hL hP hwc hln hpn hwn hkn hvi hm1 hpl hB hHA hX hX0 hH hks hws hp0 hp1 hj;have k1:=kA w (.cells #[.slice lad ln lc,.slice pad pn pc] 27)
  have t1:=heap_new w (.cells #[.slice lad ln lc,.slice pad pn pc] 27)
  have s1:(w.alloc (.cells #[.slice lad ln lc,.slice pad pn pc] 27)).heap.size = w.heap.size + 1:=by simp
  go_enter Try.func46,Try.ntmps46
  go_upto_region 1 with fail
  rw [zeros32_eq];generalize w.alloc (.cells #[.slice lad ln lc,.slice pad pn pc] 27) = wa at k1 t1 s1 ⊢
  have k2:=kA wa (.cells zeros32 33)
  have r2:=heap_new wa (.cells zeros32 33)
  have t2:=rk t1 k2;generalize wa.alloc (.cells zeros32 33) = w1 at k2 r2 t2 ⊢
  have K1:=hid (k1.next1 k2);rw [s1] at r2
  (try rw [s1])
  obtain⟨tb,htb⟩:∃ tb,tb = w.heap.size:=⟨_,rfl⟩;obtain⟨rb,hrb⟩:∃ rb,rb = w.heap.size + 1:=⟨_,rfl⟩;rw [← hrb] at r2
  (try rw [← hrb])
  rw [← htb] at t2
  (try rw [← htb])
  have HTR:=hid (show tb≠rb by omega)
  have HRB:=hid (show ¬ rb < w.heap.size by omega)
  have T1:=hid t2;have R1:=hid r2;clear k1 t1 s1 k2 r2 t2 htb hrb;refine wp_region_lit ?_;iterate 4 (refine @wQ _ _ _ _ _ _ _ ?_ ?_;kernel_rfl;intro K hK;go_simp;refine hK _ _ ?_;clear hK K)
  rw [HW1.out];refine @wQ _ _ _ _ _ _ _ ?_ ?_;kernel_rfl;intro K hK;go_simp;refine hK _ _ ?_;clear hK K;clear hne
  go_upto_region 3 with fail
  refine wp_region_lit ?_;iterate 2 (refine @wQ _ _ _ _ _ _ _ ?_ ?_;kernel_rfl;intro K hK;go_simp;refine hK _ _ ?_;clear hK K)
  rw [HW3.out];refine @wQ _ _ _ _ _ _ _ ?_ ?_;kernel_rfl;intro K hK;go_simp;refine hK _ _ ?_;clear hK K
  rcases HCX.out with ⟨hv,hxp⟩ | ⟨hv,hvw,hwad,hcx⟩
  ·have hv2:¬ 0≤vi:=by omega
   have hv3:vi < 0:=hv;rw [← hxp];clear hxp
   go_upto_region 4 with fail
   refine wp_region_lit ?_;iterate 2 (refine @wQ _ _ _ _ _ _ _ ?_ ?_;kernel_rfl;intro K hK;go_simp;refine hK _ _ ?_;clear hK K)
   clear hv hv2 hv3 HCX;have HT:=hid (fun(u:World) (k:Kept w1.heap.size w1.heap.size w1 u)=>(k.block tb (lt_of_block T1.out) (Nat.ne_of_lt (lt_of_block T1.out))).trans T1.out)
   have HLT:=hid (fun(u:World) (k:Kept w1.heap.size w1.heap.size w1 u)=>run_loadVar_row u tb 27 27 _ (0,0) _ (HT.out u k) Try.underlying27 rfl treeInfo)
   have HLA:=hid (fun(u:World) (k:Kept w1.heap.size w1.heap.size w1 u)=>load_slice (d:=.int .u8) (two_cell0 (HT.out u k)) (.inl rfl) rfl)
   go_upto_region 6 with fail
   refine Code.wp_mono (Q:=fun e a u=>e = .normal∧∃ sb,a = { tmps:=#[.agg #[.slice lad ln lc,.slice pad pn pc],.int .i64 place,.slice wad wn wc,.slice (some ⟨kg,ko,none⟩) kn kc,.int .i64 vi,.pointer (some ⟨tb,0,none⟩),undef,undef,undef,undef,.pointer (some ⟨rb,0,none⟩),.int .i64 x,.pointer (some ⟨sb,0,none⟩),.int .i64 vi,.slice wad wn wc,.int .i64 (wn:Int),.int .i64 m1,.bool false,undef,.int .i64 place,.int .i64 x,.int .i64 vi,.bool false,undef,undef,undef,undef,.agg #[.slice lad ln lc,.slice pad pn pc],.pointer (some ⟨tb,0,none⟩),.slice lad ln lc,.int .i64 (ln:Int),.int .i64 x,.int .i64 B0,.agg dh,undef,undef,undef,undef,undef,undef,undef,undef,undef,undef,undef,undef,undef,undef,undef,undef,undef,undef,undef,undef],defers:=[] }∧Kept w1.heap.size w1.heap.size w1 u∧u.heap[sb]? = some (.cells dh 33 (0,0))∧w1.heap.size≤sb) ?rest ?reg
   case reg=>
    refine wp_region_noPanic ?_;refine wp_region_held_drew (S:=fun w'=>Kept w1.heap.size w1.heap.size w1 w') (by kernel_rfl) ((Kept.refl _ _ _).drew) (fun hH=>?_)
    have KD:=hid hH;obtain⟨wd,hwd⟩:∃ wd,wd = w1.drew:=⟨_,rfl⟩;rw [← hwd] at hH KD ⊢;clear hwd;refine wpAnyH_take_at (i:=0) 27 (.agg #[.slice lad ln lc,.slice pad pn pc]) rfl rfl (by kernel_rfl) (by kernel_rfl) (by kernel_rfl) (fun _ _ _ h=>h) (yieldsIf_load_known (by kernel_rfl) 27 _ rfl (tb) (0) rfl (.agg #[.slice lad ln lc,.slice pad pn pc]) (HLT.out)) hH ?_
    simp only [sA,sB,sC];refine wpAnyH_take_ex (i:=1) 28 rfl rfl (by kernel_rfl) (by kernel_rfl) (by kernel_rfl) (fun _ _ _ _ h=>h) (by kernel_rfl) hH ?_
    apply Exists.intro;apply And.intro
    ·intro w9 _
     go_simp
     first | done | rfl
    simp only [sA,sB,sC];refine wpAnyH_take_at (i:=2) 29 (.slice lad ln lc) rfl rfl (by kernel_rfl) (by kernel_rfl) (by kernel_rfl) (fun _ _ _ h=>h) (yieldsIf_load_known (by kernel_rfl) 24 _ rfl (tb) (0) rfl (.slice lad ln lc) (HLA.out)) hH ?_
    simp only [sA,sB,sC];refine wpAnyH_take_ex (i:=3) 30 rfl rfl (by kernel_rfl) (by kernel_rfl) (by kernel_rfl) (fun _ _ _ _ h=>h) (by kernel_rfl) hH ?_
    apply Exists.intro;apply And.intro
    ·intro w9 _
     go_simp
     first | done | rfl
    simp only [sA,sB,sC];refine wpAnyH_take_ex (i:=4) 31 rfl rfl (by kernel_rfl) (by kernel_rfl) (by kernel_rfl) (fun _ _ _ _ h=>h) (by kernel_rfl) hH ?_
    apply Exists.intro;apply And.intro
    ·intro w9 _
     go_simp
     first | done | rfl
    simp only [sA,sB,sC];refine wpAnyH_ready (rs:=[5,7]) (by kernel_rfl) (by simp) ?_
    refine AllReadyH.cons rfl (fun K hK=>?_) ?_
    ·rw [if_pos (by rfl)]
     go_simp
     go_wp2_with (go_at_call 62; refine(HBS.out _).mono ?_; rintro e u5 ⟨rfl,h5⟩; subst u5)
     refine hK.out _ _ KD.out (fun hH=>?_)
     clear hK K;refine wpAnyH_ready (rs:=[6,7]) (by kernel_rfl) (by simp) ?_
     refine AllReadyH.cons rfl (fun K hK=>?_) ?_
     ·rw [if_pos (by rfl)]
      go_simp
      go_wp2_with (go_at_call 61; refine(HHX.out _ (K1.out.next1 KD.out)).mono ?_; rintro e u56 ⟨rfl,k6⟩)
      have Ku56:=hid (KD.out.next1 k6);clear k6;refine hK.out _ _ Ku56.out (fun hH=>?_)
      clear hK K;refine wpAnyH_ready (rs:=[7]) (by kernel_rfl) (by simp) ?_
      refine AllReadyH.cons rfl (fun K hK=>?_) AllReadyH.nil
      rw [if_pos (by rfl)]
      obtain⟨sb,hsb⟩:∃ sb,sb = u56.heap.size:=⟨_,rfl⟩;have er:=alloc_arr32 u56;have ho:=heap_new u56 (.cells zeros32 33)
      have kq:=kA u56 (.cells zeros32 33)
      rw [← hsb] at er ho;generalize u56.alloc (.cells zeros32 33) = u567 at er ho kq
      refine wp_alloc_known 33 rfl (some 12) rfl _ er ?_
      simp only [Act.put,sA,sB,sC];have Ku567:=hid (Ku56.out.next1 kq);have HSB:=hid (show w1.heap.size≤sb by rw [hsb]; exact Ku56.out.size)
      have Ru567:=hid ho;clear er ho kq hsb;refine hK.out _ _ Ku567.out (fun hH=>?_)
      clear hK K;refine wpAnyH_ready (rs:=[8]) (by kernel_rfl) (by simp) ?_
      refine AllReadyH.cons rfl (fun K hK=>?_) AllReadyH.nil
      rw [if_pos (by rfl)]
      refine wp_store_row_none 33 _ _ rfl rfl sb dh rfl rfl 33 zeros32 Ru567.out (info32 HDH.out) (by rw [HDH.out]; rfl) HDA.out ?_
      have HS:=setRow_heap u567 sb _ dh _ _ Ru567.out;have HKE:Kept w1.heap.size w1.heap.size w1 (u567.setRow sb dh):=Ku567.out.grown (grown_setRow u567 sb dh) Ku567.out.size (fun k e=>by cases e; exact HSB.out)
      refine hK.out _ _ HKE (fun hH=>?_)
      clear hK K;refine wpAnyH_done (by kernel_rfl) ?_ _
      refine NoPanic.normal ?_;exact⟨rfl,sb,rfl,HKE,HS,HSB.out⟩
     refine AllReadyH.cons rfl (fun K hK=>?_) AllReadyH.nil
     rw [if_pos (by rfl)]
     obtain⟨sb,hsb⟩:∃ sb,sb = wd.heap.size:=⟨_,rfl⟩;have er:=alloc_arr32 wd;have ho:=heap_new wd (.cells zeros32 33)
     have kq:=kA wd (.cells zeros32 33)
     rw [← hsb] at er ho;generalize wd.alloc (.cells zeros32 33) = u57 at er ho kq
     refine wp_alloc_known 33 rfl (some 12) rfl _ er ?_
     simp only [Act.put,sA,sB,sC];have Ku57:=hid (KD.out.next1 kq);have HSB:=hid (show w1.heap.size≤sb by rw [hsb]; exact KD.out.size)
     have Ru57:=hid ho;clear er ho kq hsb;refine hK.out _ _ Ku57.out (fun hH=>?_)
     clear hK K;refine wpAnyH_ready (rs:=[6]) (by kernel_rfl) (by simp) ?_
     refine AllReadyH.cons rfl (fun K hK=>?_) AllReadyH.nil
     rw [if_pos (by rfl)]
     go_simp
     go_wp2_with (go_at_call 61; refine(HHX.out _ (K1.out.next1 Ku57.out)).mono ?_; rintro e u576 ⟨rfl,k6⟩)
     have Ku576:=hid (Ku57.out.next1 k6);have Ru576:=hid (rk Ru57.out k6);clear k6;refine hK.out _ _ Ku576.out (fun hH=>?_)
     clear hK K;refine wpAnyH_ready (rs:=[8]) (by kernel_rfl) (by simp) ?_
     refine AllReadyH.cons rfl (fun K hK=>?_) AllReadyH.nil
     rw [if_pos (by rfl)]
     refine wp_store_row_none 33 _ _ rfl rfl sb dh rfl rfl 33 zeros32 Ru576.out (info32 HDH.out) (by rw [HDH.out]; rfl) HDA.out ?_
     have HS:=setRow_heap u576 sb _ dh _ _ Ru576.out;have HKE:Kept w1.heap.size w1.heap.size w1 (u576.setRow sb dh):=Ku576.out.grown (grown_setRow u576 sb dh) Ku576.out.size (fun k e=>by cases e; exact HSB.out)
     refine hK.out _ _ HKE (fun hH=>?_)
     clear hK K;refine wpAnyH_done (by kernel_rfl) ?_ _
     refine NoPanic.normal ?_;exact⟨rfl,sb,rfl,HKE,HS,HSB.out⟩
    refine AllReadyH.cons rfl (fun K hK=>?_) AllReadyH.nil
    rw [if_pos (by rfl)]
    obtain⟨sb,hsb⟩:∃ sb,sb = wd.heap.size:=⟨_,rfl⟩;have er:=alloc_arr32 wd;have ho:=heap_new wd (.cells zeros32 33)
    have kq:=kA wd (.cells zeros32 33)
    rw [← hsb] at er ho;generalize wd.alloc (.cells zeros32 33) = u7 at er ho kq
    refine wp_alloc_known 33 rfl (some 12) rfl _ er ?_
    simp only [Act.put,sA,sB,sC];have Ku7:=hid (KD.out.next1 kq);have HSB:=hid (show w1.heap.size≤sb by rw [hsb]; exact KD.out.size)
    have Ru7:=hid ho;clear er ho kq hsb;refine hK.out _ _ Ku7.out (fun hH=>?_)
    clear hK K;refine wpAnyH_ready (rs:=[5]) (by kernel_rfl) (by simp) ?_
    refine AllReadyH.cons rfl (fun K hK=>?_) AllReadyH.nil
    rw [if_pos (by rfl)]
    go_simp
    go_wp2_with (go_at_call 62; refine(HBS.out _).mono ?_; rintro e u75 ⟨rfl,h5⟩; subst u75)
    refine hK.out _ _ Ku7.out (fun hH=>?_)
    clear hK K;refine wpAnyH_ready (rs:=[6]) (by kernel_rfl) (by simp) ?_
    refine AllReadyH.cons rfl (fun K hK=>?_) AllReadyH.nil
    rw [if_pos (by rfl)]
    go_simp
    go_wp2_with (go_at_call 61; refine(HHX.out _ (K1.out.next1 Ku7.out)).mono ?_; rintro e u756 ⟨rfl,k6⟩)
    have Ku756:=hid (Ku7.out.next1 k6);have Ru756:=hid (rk Ru7.out k6);clear k6;refine hK.out _ _ Ku756.out (fun hH=>?_)
    clear hK K;refine wpAnyH_ready (rs:=[8]) (by kernel_rfl) (by simp) ?_
    refine AllReadyH.cons rfl (fun K hK=>?_) AllReadyH.nil
    rw [if_pos (by rfl)]
    refine wp_store_row_none 33 _ _ rfl rfl sb dh rfl rfl 33 zeros32 Ru756.out (info32 HDH.out) (by rw [HDH.out]; rfl) HDA.out ?_
    have HS:=setRow_heap u756 sb _ dh _ _ Ru756.out;have HKE:Kept w1.heap.size w1.heap.size w1 (u756.setRow sb dh):=Ku756.out.grown (grown_setRow u756 sb dh) Ku756.out.size (fun k e=>by cases e; exact HSB.out)
    refine hK.out _ _ HKE (fun hH=>?_)
    clear hK K;refine wpAnyH_done (by kernel_rfl) ?_ _
    refine NoPanic.normal ?_;exact⟨rfl,sb,rfl,HKE,HS,HSB.out⟩
   case rest=>
    rintro e a u ⟨rfl,sb,rfl,ku,hrow,hsb⟩;have KU:=hid ku;have ROW:=hid hrow;have tu:=HT.out u ku;have ru:=(ku.block rb (lt_of_block R1.out) (Nat.ne_of_lt (lt_of_block R1.out))).trans R1.out;have TU:=hid tu;have RU:=hid ru;clear HT HLT HLA T1 R1 ku hrow hsb tu ru HBS HHX
    go_upto_region 7 with fail
    refine wp_region_noPanic ?_;obtain⟨wd,hwd⟩:∃ wd,wd = u.drew:=⟨_,rfl⟩;have hkd:Kept u.heap.size u.heap.size u wd:=by rw [hwd]; exact(Kept.refl _ _ _).drew
    have HLT:=hid (fun(v:World) (k:Kept u.heap.size u.heap.size u v)=>run_loadVar_row v tb 27 27 _ (0,0) _ (rk TU.out k) Try.underlying27 rfl treeInfo)
    have HLS:=hid (fun(v:World) (k:Kept u.heap.size u.heap.size u v)=>run_loadVar_row v sb 33 33 _ (0,0) _ (rk ROW.out k) Try.underlying33 rfl (info32 HDH.out))
    have HLQ:=hid (fun(v:World) (k:Kept u.heap.size u.heap.size u v)=>HLK.out v ((K1.out.next1 KU.out).next1 k))
    have KW:=hid (K1.out.next1 KU.out);have q0:=Q0.out;have q1:=Q1.out;have q2:=Q2.out;have j0:=HJ0.out;have jk:=HJK.out;refine wp_region_heldTo 20 (S:=fun w'=>Kept u.heap.size u.heap.size u w') (by kernel_rfl) (by rw [← hwd]; exact hkd) (fun hH=>?_)
    rw [← hwd] at hH ⊢;clear hwd;refine heldTo_take (i:=0) 34 (.slice (some ⟨kg,ko,none⟩) kn kc) rfl rfl (by kernel_rfl) (by kernel_rfl) (by kernel_rfl) (by kernel_rfl) (fun _ _ _ h=>h) (.inl ⟨by kernel_rfl,fun w9 _=>by go_simp; first | done | rfl⟩) hH ?_
    simp only [sA,sB,sC];refine heldTo_take (i:=1) 35 (.int .i64 vi) rfl rfl (by kernel_rfl) (by kernel_rfl) (by kernel_rfl) (by kernel_rfl) (fun _ _ _ h=>h) (.inl ⟨by kernel_rfl,fun w9 _=>by go_simp; first | done | rfl⟩) hH ?_
    simp only [sA,sB,sC];refine heldTo_take (i:=2) 36 (.int .i64 (j:Int)) rfl rfl (by kernel_rfl) (by kernel_rfl) (by kernel_rfl) (by kernel_rfl) (fun _ _ _ h=>h) (.inl ⟨by kernel_rfl,fun w9 _=>by go_simp; first | rw [HW2.out] | done⟩) hH ?_
    simp only [sA,sB,sC];refine heldTo_take (i:=3) 37 (.pointer (some ⟨kg,ko + j * 32,none⟩)) rfl rfl (by kernel_rfl) (by kernel_rfl) (by kernel_rfl) (by kernel_rfl) (fun _ _ _ h=>h) (.inl ⟨by kernel_rfl,fun w9 _=>by go_simp; first | done | rfl⟩) hH ?_
    simp only [sA,sB,sC];refine heldTo_take (i:=4) 38 (.agg dk) rfl rfl (by kernel_rfl) (by kernel_rfl) (by kernel_rfl) (by kernel_rfl) (fun _ _ _ h=>h) (yieldsIf_load_known (by kernel_rfl) 34 _ rfl (kg) (ko + j * 32) rfl (.agg dk) (HLQ.out)) hH ?_
    simp only [sA,sB,sC];refine heldTo_take (i:=7) 41 (.agg #[.slice lad ln lc,.slice pad pn pc]) rfl rfl (by kernel_rfl) (by kernel_rfl) (by kernel_rfl) (by kernel_rfl) (fun _ _ _ h=>h) (yieldsIf_load_known (by kernel_rfl) 27 _ rfl (tb) (0) rfl (.agg #[.slice lad ln lc,.slice pad pn pc]) (HLT.out)) hH ?_
    simp only [sA,sB,sC];refine heldTo_take (i:=8) 42 (.int .i64 place) rfl rfl (by kernel_rfl) (by kernel_rfl) (by kernel_rfl) (by kernel_rfl) (fun _ _ _ h=>h) (.inl ⟨by kernel_rfl,fun w9 _=>by go_simp; first | done | rfl⟩) hH ?_
    simp only [sA,sB,sC];refine heldTo_take (i:=9) 43 (.slice wad wn wc) rfl rfl (by kernel_rfl) (by kernel_rfl) (by kernel_rfl) (by kernel_rfl) (fun _ _ _ h=>h) (.inl ⟨by kernel_rfl,fun w9 _=>by go_simp; first | done | rfl⟩) hH ?_
    simp only [sA,sB,sC];refine heldTo_take (i:=10) 44 (.slice (some ⟨kg,ko,none⟩) kn kc) rfl rfl (by kernel_rfl) (by kernel_rfl) (by kernel_rfl) (by kernel_rfl) (fun _ _ _ h=>h) (.inl ⟨by kernel_rfl,fun w9 _=>by go_simp; first | done | rfl⟩) hH ?_
    simp only [sA,sB,sC];refine heldTo_take (i:=11) 45 (.int .i64 vi) rfl rfl (by kernel_rfl) (by kernel_rfl) (by kernel_rfl) (by kernel_rfl) (fun _ _ _ h=>h) (.inl ⟨by kernel_rfl,fun w9 _=>by go_simp; first | done | rfl⟩) hH ?_
    simp only [sA,sB,sC];refine heldTo_take (i:=12) 46 (.int .i64 (j:Int)) rfl rfl (by kernel_rfl) (by kernel_rfl) (by kernel_rfl) (by kernel_rfl) (fun _ _ _ h=>h) (.inl ⟨by kernel_rfl,fun w9 _=>by go_simp; first | rw [HW2.out] | done⟩) hH ?_
    simp only [sA,sB,sC];refine heldTo_take (i:=16) 50 (.agg dh) rfl rfl (by kernel_rfl) (by kernel_rfl) (by kernel_rfl) (by kernel_rfl) (fun _ _ _ h=>h) (yieldsIf_load_known (by kernel_rfl) 33 _ rfl (sb) (0) rfl (.agg dh) (HLS.out)) hH ?_
    simp only [sA,sB,sC];refine heldTo_one (i:=5) (by kernel_rfl) rfl (fun K hK=>?_)
    rw [if_pos (by rfl)]
    go_simp
    go_wp2_with (go_at_call 64; refine(HT1.out _).mono ?_; rintro e w2 ⟨rfl,kw2⟩)
    have K2:Kept u.heap.size u.heap.size u w2:=hH.next1 kw2;refine hK.out _ _ K2 (fun hH=>?_)
    clear hK K;refine heldTo_take (i:=6) 40 (.string (⟨#[97,98,111,118,101]⟩ ++ tk)) rfl rfl (by kernel_rfl) (by kernel_rfl) (by kernel_rfl) (by kernel_rfl) (fun _ _ _ h=>h) (.inl ⟨by kernel_rfl,fun w9 _=>by go_simp; first | done | rfl⟩) hH ?_
    simp only [sA,sB,sC];refine heldTo_one (i:=13) (by kernel_rfl) rfl (fun K hK=>?_)
    rw [if_pos (by rfl)]
    go_simp
    go_wp2_with (go_at_call 46; refine(HIH.out _ (KW.out.next1 K2)).mono ?_; rintro e w3 ⟨rfl,kw3⟩)
    have K3:Kept u.heap.size u.heap.size u w3:=K2.next1 kw3;refine hK.out _ _ K3 (fun hH=>?_)
    clear hK K;refine heldTo_one (i:=14) (by kernel_rfl) rfl (fun K hK=>?_)
    rw [if_pos (by rfl)]
    go_simp
    go_wp2_with (go_at_call 64; refine(HT2.out _).mono ?_; rintro e w4 ⟨rfl,kw4⟩)
    have K4:Kept u.heap.size u.heap.size u w4:=K3.next1 kw4;refine hK.out _ _ K4 (fun hH=>?_)
    clear hK K;refine heldTo_take (i:=15) 49 (.string (⟨#[97,98,111,118,101]⟩ ++ tk ++ ts)) rfl rfl (by kernel_rfl) (by kernel_rfl) (by kernel_rfl) (by kernel_rfl) (fun _ _ _ h=>h) (.inl ⟨by kernel_rfl,fun w9 _=>by go_simp; first | done | rfl⟩) hH ?_
    simp only [sA,sB,sC];refine heldTo_one (i:=17) (by kernel_rfl) rfl (fun K hK=>?_)
    rw [if_pos (by rfl)]
    go_simp
    go_wp2_with (go_at_call 64; refine(HT3.out _).mono ?_; rintro e w5 ⟨rfl,kw5⟩)
    have K5:Kept u.heap.size u.heap.size u w5:=K4.next1 kw5;refine hK.out _ _ K5 (fun hH=>?_)
    clear hK K;refine heldTo_take (i:=18) 52 (.string (⟨#[97,98,111,118,101]⟩ ++ tk ++ ts ++ th)) rfl rfl (by kernel_rfl) (by kernel_rfl) (by kernel_rfl) (by kernel_rfl) (fun _ _ _ h=>h) (.inl ⟨by kernel_rfl,fun w9 _=>by go_simp; first | done | rfl⟩) hH ?_
    simp only [sA,sB,sC];refine heldTo_one (i:=19) (by kernel_rfl) rfl (fun K hK=>?_)
    rw [if_pos (by rfl)]
    go_simp
    go_wp2_with (go_at_call 63; refine(HSM.out _).mono ?_; rintro e w6 ⟨rfl,kw6⟩)
    have K6:Kept u.heap.size u.heap.size u w6:=K5.next1 kw6;refine hK.out _ _ K6 (fun hH=>?_)
    clear hK K;have R6:=(K6.block rb (lt_of_block RU.out) (Nat.ne_of_lt (lt_of_block RU.out))).trans RU.out;refine heldTo_last (by kernel_rfl) rfl (fun K hK=>?_)
    rw [if_pos (by rfl)]
    refine wp_store_row_none 33 _ _ rfl rfl rb cu rfl rfl 33 zeros32 R6 (info32 HCS.out) (by rw [HCS.out]; rfl) HALL.out ?_
    refine hK.out _ _ ?_;clear hK K;refine heldTo_done (by kernel_rfl) ?_ _
    refine NoPanic.normal ?_;have R7:=setRow_heap w6 rb _ cu _ _ R6;have K7:=hid ((KW.out.next1 K6).grown (grown_setRow w6 rb cu) (KW.out.next1 K6).size (fun k e=>by cases e; exact Nat.le_of_not_lt HRB.out))
    generalize w6.setRow rb cu = w7 at R7 K7 ⊢;clear hH q0 q1 q2;go_wp2;refine bodyPost_ret (results_cell_row rfl _ _ rb 33 _ (0,0) _ rfl R7 Try.underlying33 rfl (info32 HCS.out)) rfl ?_
    exact⟨rfl,K7.out⟩
  ·have hv2:¬ vi < 0:=by omega
   have c0:=hcx _ K1.out;subst hwad
   go_upto_region 4 with fail
   refine wp_region_lit ?_;iterate 2 (refine @wQ _ _ _ _ _ _ _ ?_ ?_;kernel_rfl;intro K hK;go_simp;refine hK _ _ ?_;clear hK K)
   go_upto_region 5 with fail
   refine wp_region_lit ?_;iterate 3 (refine @wQ _ _ _ _ _ _ _ ?_ ?_;kernel_rfl;intro K hK;go_simp;refine hK _ _ ?_;clear hK K)
   refine @wpList_load_known _ _ _ _ _ _ _ ?_ 3 (.tmp 25) rfl (wg) (wo + vi.toNat) rfl (.int .i64 x) (load_int c0) ?_;kernel_rfl
   simp only [Act.put,sA,sB,sC];refine @wQ _ _ _ _ _ _ _ ?_ ?_;kernel_rfl;intro K hK;go_simp;refine hK _ _ ?_;clear hK K;clear hv hv2 hvw c0 hcx HCX;have HT:=hid (fun(u:World) (k:Kept w1.heap.size w1.heap.size w1 u)=>(k.block tb (lt_of_block T1.out) (Nat.ne_of_lt (lt_of_block T1.out))).trans T1.out)
   have HLT:=hid (fun(u:World) (k:Kept w1.heap.size w1.heap.size w1 u)=>run_loadVar_row u tb 27 27 _ (0,0) _ (HT.out u k) Try.underlying27 rfl treeInfo)
   have HLA:=hid (fun(u:World) (k:Kept w1.heap.size w1.heap.size w1 u)=>load_slice (d:=.int .u8) (two_cell0 (HT.out u k)) (.inl rfl) rfl)
   go_upto_region 6 with fail
   refine Code.wp_mono (Q:=fun e a u=>e = .normal∧∃ sb,a = { tmps:=#[.agg #[.slice lad ln lc,.slice pad pn pc],.int .i64 place,.slice (some ⟨wg,wo,none⟩) wn wc,.slice (some ⟨kg,ko,none⟩) kn kc,.int .i64 vi,.pointer (some ⟨tb,0,none⟩),undef,undef,undef,undef,.pointer (some ⟨rb,0,none⟩),.int .i64 x,.pointer (some ⟨sb,0,none⟩),.int .i64 vi,.slice (some ⟨wg,wo,none⟩) wn wc,.int .i64 (wn:Int),.int .i64 m1,.bool false,undef,.int .i64 place,.int .i64 pl,.int .i64 vi,.bool true,.slice (some ⟨wg,wo,none⟩) wn wc,.int .i64 vi,.pointer (some ⟨wg,wo + vi.toNat,none⟩),.int .i64 x,.agg #[.slice lad ln lc,.slice pad pn pc],.pointer (some ⟨tb,0,none⟩),.slice lad ln lc,.int .i64 (ln:Int),.int .i64 x,.int .i64 B0,.agg dh,undef,undef,undef,undef,undef,undef,undef,undef,undef,undef,undef,undef,undef,undef,undef,undef,undef,undef,undef,undef],defers:=[] }∧Kept w1.heap.size w1.heap.size w1 u∧u.heap[sb]? = some (.cells dh 33 (0,0))∧w1.heap.size≤sb) ?rest ?reg
   case reg=>
    refine wp_region_noPanic ?_;refine wp_region_held_drew (S:=fun w'=>Kept w1.heap.size w1.heap.size w1 w') (by kernel_rfl) ((Kept.refl _ _ _).drew) (fun hH=>?_)
    have KD:=hid hH;obtain⟨wd,hwd⟩:∃ wd,wd = w1.drew:=⟨_,rfl⟩;rw [← hwd] at hH KD ⊢;clear hwd;refine wpAnyH_take_at (i:=0) 27 (.agg #[.slice lad ln lc,.slice pad pn pc]) rfl rfl (by kernel_rfl) (by kernel_rfl) (by kernel_rfl) (fun _ _ _ h=>h) (yieldsIf_load_known (by kernel_rfl) 27 _ rfl (tb) (0) rfl (.agg #[.slice lad ln lc,.slice pad pn pc]) (HLT.out)) hH ?_
    simp only [sA,sB,sC];refine wpAnyH_take_ex (i:=1) 28 rfl rfl (by kernel_rfl) (by kernel_rfl) (by kernel_rfl) (fun _ _ _ _ h=>h) (by kernel_rfl) hH ?_
    apply Exists.intro;apply And.intro
    ·intro w9 _
     go_simp
     first | done | rfl
    simp only [sA,sB,sC];refine wpAnyH_take_at (i:=2) 29 (.slice lad ln lc) rfl rfl (by kernel_rfl) (by kernel_rfl) (by kernel_rfl) (fun _ _ _ h=>h) (yieldsIf_load_known (by kernel_rfl) 24 _ rfl (tb) (0) rfl (.slice lad ln lc) (HLA.out)) hH ?_
    simp only [sA,sB,sC];refine wpAnyH_take_ex (i:=3) 30 rfl rfl (by kernel_rfl) (by kernel_rfl) (by kernel_rfl) (fun _ _ _ _ h=>h) (by kernel_rfl) hH ?_
    apply Exists.intro;apply And.intro
    ·intro w9 _
     go_simp
     first | done | rfl
    simp only [sA,sB,sC];refine wpAnyH_take_ex (i:=4) 31 rfl rfl (by kernel_rfl) (by kernel_rfl) (by kernel_rfl) (fun _ _ _ _ h=>h) (by kernel_rfl) hH ?_
    apply Exists.intro;apply And.intro
    ·intro w9 _
     go_simp
     first | done | rfl
    simp only [sA,sB,sC];refine wpAnyH_ready (rs:=[5,7]) (by kernel_rfl) (by simp) ?_
    refine AllReadyH.cons rfl (fun K hK=>?_) ?_
    ·rw [if_pos (by rfl)]
     go_simp
     go_wp2_with (go_at_call 62; refine(HBS.out _).mono ?_; rintro e u5 ⟨rfl,h5⟩; subst u5)
     refine hK.out _ _ KD.out (fun hH=>?_)
     clear hK K;refine wpAnyH_ready (rs:=[6,7]) (by kernel_rfl) (by simp) ?_
     refine AllReadyH.cons rfl (fun K hK=>?_) ?_
     ·rw [if_pos (by rfl)]
      go_simp
      go_wp2_with (go_at_call 61; refine(HHX.out _ (K1.out.next1 KD.out)).mono ?_; rintro e u56 ⟨rfl,k6⟩)
      have Ku56:=hid (KD.out.next1 k6);clear k6;refine hK.out _ _ Ku56.out (fun hH=>?_)
      clear hK K;refine wpAnyH_ready (rs:=[7]) (by kernel_rfl) (by simp) ?_
      refine AllReadyH.cons rfl (fun K hK=>?_) AllReadyH.nil
      rw [if_pos (by rfl)]
      obtain⟨sb,hsb⟩:∃ sb,sb = u56.heap.size:=⟨_,rfl⟩;have er:=alloc_arr32 u56;have ho:=heap_new u56 (.cells zeros32 33)
      have kq:=kA u56 (.cells zeros32 33)
      rw [← hsb] at er ho;generalize u56.alloc (.cells zeros32 33) = u567 at er ho kq
      refine wp_alloc_known 33 rfl (some 12) rfl _ er ?_
      simp only [Act.put,sA,sB,sC];have Ku567:=hid (Ku56.out.next1 kq);have HSB:=hid (show w1.heap.size≤sb by rw [hsb]; exact Ku56.out.size)
      have Ru567:=hid ho;clear er ho kq hsb;refine hK.out _ _ Ku567.out (fun hH=>?_)
      clear hK K;refine wpAnyH_ready (rs:=[8]) (by kernel_rfl) (by simp) ?_
      refine AllReadyH.cons rfl (fun K hK=>?_) AllReadyH.nil
      rw [if_pos (by rfl)]
      refine wp_store_row_none 33 _ _ rfl rfl sb dh rfl rfl 33 zeros32 Ru567.out (info32 HDH.out) (by rw [HDH.out]; rfl) HDA.out ?_
      have HS:=setRow_heap u567 sb _ dh _ _ Ru567.out;have HKE:Kept w1.heap.size w1.heap.size w1 (u567.setRow sb dh):=Ku567.out.grown (grown_setRow u567 sb dh) Ku567.out.size (fun k e=>by cases e; exact HSB.out)
      refine hK.out _ _ HKE (fun hH=>?_)
      clear hK K;refine wpAnyH_done (by kernel_rfl) ?_ _
      refine NoPanic.normal ?_;exact⟨rfl,sb,rfl,HKE,HS,HSB.out⟩
     refine AllReadyH.cons rfl (fun K hK=>?_) AllReadyH.nil
     rw [if_pos (by rfl)]
     obtain⟨sb,hsb⟩:∃ sb,sb = wd.heap.size:=⟨_,rfl⟩;have er:=alloc_arr32 wd;have ho:=heap_new wd (.cells zeros32 33)
     have kq:=kA wd (.cells zeros32 33)
     rw [← hsb] at er ho;generalize wd.alloc (.cells zeros32 33) = u57 at er ho kq
     refine wp_alloc_known 33 rfl (some 12) rfl _ er ?_
     simp only [Act.put,sA,sB,sC];have Ku57:=hid (KD.out.next1 kq);have HSB:=hid (show w1.heap.size≤sb by rw [hsb]; exact KD.out.size)
     have Ru57:=hid ho;clear er ho kq hsb;refine hK.out _ _ Ku57.out (fun hH=>?_)
     clear hK K;refine wpAnyH_ready (rs:=[6]) (by kernel_rfl) (by simp) ?_
     refine AllReadyH.cons rfl (fun K hK=>?_) AllReadyH.nil
     rw [if_pos (by rfl)]
     go_simp
     go_wp2_with (go_at_call 61; refine(HHX.out _ (K1.out.next1 Ku57.out)).mono ?_; rintro e u576 ⟨rfl,k6⟩)
     have Ku576:=hid (Ku57.out.next1 k6);have Ru576:=hid (rk Ru57.out k6);clear k6;refine hK.out _ _ Ku576.out (fun hH=>?_)
     clear hK K;refine wpAnyH_ready (rs:=[8]) (by kernel_rfl) (by simp) ?_
     refine AllReadyH.cons rfl (fun K hK=>?_) AllReadyH.nil
     rw [if_pos (by rfl)]
     refine wp_store_row_none 33 _ _ rfl rfl sb dh rfl rfl 33 zeros32 Ru576.out (info32 HDH.out) (by rw [HDH.out]; rfl) HDA.out ?_
     have HS:=setRow_heap u576 sb _ dh _ _ Ru576.out;have HKE:Kept w1.heap.size w1.heap.size w1 (u576.setRow sb dh):=Ku576.out.grown (grown_setRow u576 sb dh) Ku576.out.size (fun k e=>by cases e; exact HSB.out)
     refine hK.out _ _ HKE (fun hH=>?_)
     clear hK K;refine wpAnyH_done (by kernel_rfl) ?_ _
     refine NoPanic.normal ?_;exact⟨rfl,sb,rfl,HKE,HS,HSB.out⟩
    refine AllReadyH.cons rfl (fun K hK=>?_) AllReadyH.nil
    rw [if_pos (by rfl)]
    obtain⟨sb,hsb⟩:∃ sb,sb = wd.heap.size:=⟨_,rfl⟩;have er:=alloc_arr32 wd;have ho:=heap_new wd (.cells zeros32 33)
    have kq:=kA wd (.cells zeros32 33)
    rw [← hsb] at er ho;generalize wd.alloc (.cells zeros32 33) = u7 at er ho kq
    refine wp_alloc_known 33 rfl (some 12) rfl _ er ?_
    simp only [Act.put,sA,sB,sC];have Ku7:=hid (KD.out.next1 kq);have HSB:=hid (show w1.heap.size≤sb by rw [hsb]; exact KD.out.size)
    have Ru7:=hid ho;clear er ho kq hsb;refine hK.out _ _ Ku7.out (fun hH=>?_)
    clear hK K;refine wpAnyH_ready (rs:=[5]) (by kernel_rfl) (by simp) ?_
    refine AllReadyH.cons rfl (fun K hK=>?_) AllReadyH.nil
    rw [if_pos (by rfl)]
    go_simp
    go_wp2_with (go_at_call 62; refine(HBS.out _).mono ?_; rintro e u75 ⟨rfl,h5⟩; subst u75)
    refine hK.out _ _ Ku7.out (fun hH=>?_)
    clear hK K;refine wpAnyH_ready (rs:=[6]) (by kernel_rfl) (by simp) ?_
    refine AllReadyH.cons rfl (fun K hK=>?_) AllReadyH.nil
    rw [if_pos (by rfl)]
    go_simp
    go_wp2_with (go_at_call 61; refine(HHX.out _ (K1.out.next1 Ku7.out)).mono ?_; rintro e u756 ⟨rfl,k6⟩)
    have Ku756:=hid (Ku7.out.next1 k6);have Ru756:=hid (rk Ru7.out k6);clear k6;refine hK.out _ _ Ku756.out (fun hH=>?_)
    clear hK K;refine wpAnyH_ready (rs:=[8]) (by kernel_rfl) (by simp) ?_
    refine AllReadyH.cons rfl (fun K hK=>?_) AllReadyH.nil
    rw [if_pos (by rfl)]
    refine wp_store_row_none 33 _ _ rfl rfl sb dh rfl rfl 33 zeros32 Ru756.out (info32 HDH.out) (by rw [HDH.out]; rfl) HDA.out ?_
    have HS:=setRow_heap u756 sb _ dh _ _ Ru756.out;have HKE:Kept w1.heap.size w1.heap.size w1 (u756.setRow sb dh):=Ku756.out.grown (grown_setRow u756 sb dh) Ku756.out.size (fun k e=>by cases e; exact HSB.out)
    refine hK.out _ _ HKE (fun hH=>?_)
    clear hK K;refine wpAnyH_done (by kernel_rfl) ?_ _
    refine NoPanic.normal ?_;exact⟨rfl,sb,rfl,HKE,HS,HSB.out⟩
   case rest=>
    rintro e a u ⟨rfl,sb,rfl,ku,hrow,hsb⟩;have KU:=hid ku;have ROW:=hid hrow;have tu:=HT.out u ku;have ru:=(ku.block rb (lt_of_block R1.out) (Nat.ne_of_lt (lt_of_block R1.out))).trans R1.out;have TU:=hid tu;have RU:=hid ru;clear HT HLT HLA T1 R1 ku hrow hsb tu ru HBS HHX
    go_upto_region 7 with fail
    refine wp_region_noPanic ?_;obtain⟨wd,hwd⟩:∃ wd,wd = u.drew:=⟨_,rfl⟩;have hkd:Kept u.heap.size u.heap.size u wd:=by rw [hwd]; exact(Kept.refl _ _ _).drew
    have HLT:=hid (fun(v:World) (k:Kept u.heap.size u.heap.size u v)=>run_loadVar_row v tb 27 27 _ (0,0) _ (rk TU.out k) Try.underlying27 rfl treeInfo)
    have HLS:=hid (fun(v:World) (k:Kept u.heap.size u.heap.size u v)=>run_loadVar_row v sb 33 33 _ (0,0) _ (rk ROW.out k) Try.underlying33 rfl (info32 HDH.out))
    have HLQ:=hid (fun(v:World) (k:Kept u.heap.size u.heap.size u v)=>HLK.out v ((K1.out.next1 KU.out).next1 k))
    have KW:=hid (K1.out.next1 KU.out);have q0:=Q0.out;have q1:=Q1.out;have q2:=Q2.out;have j0:=HJ0.out;have jk:=HJK.out;refine wp_region_heldTo 20 (S:=fun w'=>Kept u.heap.size u.heap.size u w') (by kernel_rfl) (by rw [← hwd]; exact hkd) (fun hH=>?_)
    rw [← hwd] at hH ⊢;clear hwd;refine heldTo_take (i:=0) 34 (.slice (some ⟨kg,ko,none⟩) kn kc) rfl rfl (by kernel_rfl) (by kernel_rfl) (by kernel_rfl) (by kernel_rfl) (fun _ _ _ h=>h) (.inl ⟨by kernel_rfl,fun w9 _=>by go_simp; first | done | rfl⟩) hH ?_
    simp only [sA,sB,sC];refine heldTo_take (i:=1) 35 (.int .i64 vi) rfl rfl (by kernel_rfl) (by kernel_rfl) (by kernel_rfl) (by kernel_rfl) (fun _ _ _ h=>h) (.inl ⟨by kernel_rfl,fun w9 _=>by go_simp; first | done | rfl⟩) hH ?_
    simp only [sA,sB,sC];refine heldTo_take (i:=2) 36 (.int .i64 (j:Int)) rfl rfl (by kernel_rfl) (by kernel_rfl) (by kernel_rfl) (by kernel_rfl) (fun _ _ _ h=>h) (.inl ⟨by kernel_rfl,fun w9 _=>by go_simp; first | rw [HW2.out] | done⟩) hH ?_
    simp only [sA,sB,sC];refine heldTo_take (i:=3) 37 (.pointer (some ⟨kg,ko + j * 32,none⟩)) rfl rfl (by kernel_rfl) (by kernel_rfl) (by kernel_rfl) (by kernel_rfl) (fun _ _ _ h=>h) (.inl ⟨by kernel_rfl,fun w9 _=>by go_simp; first | done | rfl⟩) hH ?_
    simp only [sA,sB,sC];refine heldTo_take (i:=4) 38 (.agg dk) rfl rfl (by kernel_rfl) (by kernel_rfl) (by kernel_rfl) (by kernel_rfl) (fun _ _ _ h=>h) (yieldsIf_load_known (by kernel_rfl) 34 _ rfl (kg) (ko + j * 32) rfl (.agg dk) (HLQ.out)) hH ?_
    simp only [sA,sB,sC];refine heldTo_take (i:=7) 41 (.agg #[.slice lad ln lc,.slice pad pn pc]) rfl rfl (by kernel_rfl) (by kernel_rfl) (by kernel_rfl) (by kernel_rfl) (fun _ _ _ h=>h) (yieldsIf_load_known (by kernel_rfl) 27 _ rfl (tb) (0) rfl (.agg #[.slice lad ln lc,.slice pad pn pc]) (HLT.out)) hH ?_
    simp only [sA,sB,sC];refine heldTo_take (i:=8) 42 (.int .i64 place) rfl rfl (by kernel_rfl) (by kernel_rfl) (by kernel_rfl) (by kernel_rfl) (fun _ _ _ h=>h) (.inl ⟨by kernel_rfl,fun w9 _=>by go_simp; first | done | rfl⟩) hH ?_
    simp only [sA,sB,sC];refine heldTo_take (i:=9) 43 (.slice (some ⟨wg,wo,none⟩) wn wc) rfl rfl (by kernel_rfl) (by kernel_rfl) (by kernel_rfl) (by kernel_rfl) (fun _ _ _ h=>h) (.inl ⟨by kernel_rfl,fun w9 _=>by go_simp; first | done | rfl⟩) hH ?_
    simp only [sA,sB,sC];refine heldTo_take (i:=10) 44 (.slice (some ⟨kg,ko,none⟩) kn kc) rfl rfl (by kernel_rfl) (by kernel_rfl) (by kernel_rfl) (by kernel_rfl) (fun _ _ _ h=>h) (.inl ⟨by kernel_rfl,fun w9 _=>by go_simp; first | done | rfl⟩) hH ?_
    simp only [sA,sB,sC];refine heldTo_take (i:=11) 45 (.int .i64 vi) rfl rfl (by kernel_rfl) (by kernel_rfl) (by kernel_rfl) (by kernel_rfl) (fun _ _ _ h=>h) (.inl ⟨by kernel_rfl,fun w9 _=>by go_simp; first | done | rfl⟩) hH ?_
    simp only [sA,sB,sC];refine heldTo_take (i:=12) 46 (.int .i64 (j:Int)) rfl rfl (by kernel_rfl) (by kernel_rfl) (by kernel_rfl) (by kernel_rfl) (fun _ _ _ h=>h) (.inl ⟨by kernel_rfl,fun w9 _=>by go_simp; first | rw [HW2.out] | done⟩) hH ?_
    simp only [sA,sB,sC];refine heldTo_take (i:=16) 50 (.agg dh) rfl rfl (by kernel_rfl) (by kernel_rfl) (by kernel_rfl) (by kernel_rfl) (fun _ _ _ h=>h) (yieldsIf_load_known (by kernel_rfl) 33 _ rfl (sb) (0) rfl (.agg dh) (HLS.out)) hH ?_
    simp only [sA,sB,sC];refine heldTo_one (i:=5) (by kernel_rfl) rfl (fun K hK=>?_)
    rw [if_pos (by rfl)]
    go_simp
    go_wp2_with (go_at_call 64; refine(HT1.out _).mono ?_; rintro e w2 ⟨rfl,kw2⟩)
    have K2:Kept u.heap.size u.heap.size u w2:=hH.next1 kw2;refine hK.out _ _ K2 (fun hH=>?_)
    clear hK K;refine heldTo_take (i:=6) 40 (.string (⟨#[97,98,111,118,101]⟩ ++ tk)) rfl rfl (by kernel_rfl) (by kernel_rfl) (by kernel_rfl) (by kernel_rfl) (fun _ _ _ h=>h) (.inl ⟨by kernel_rfl,fun w9 _=>by go_simp; first | done | rfl⟩) hH ?_
    simp only [sA,sB,sC];refine heldTo_one (i:=13) (by kernel_rfl) rfl (fun K hK=>?_)
    rw [if_pos (by rfl)]
    go_simp
    go_wp2_with (go_at_call 46; refine(HIH.out _ (KW.out.next1 K2)).mono ?_; rintro e w3 ⟨rfl,kw3⟩)
    have K3:Kept u.heap.size u.heap.size u w3:=K2.next1 kw3;refine hK.out _ _ K3 (fun hH=>?_)
    clear hK K;refine heldTo_one (i:=14) (by kernel_rfl) rfl (fun K hK=>?_)
    rw [if_pos (by rfl)]
    go_simp
    go_wp2_with (go_at_call 64; refine(HT2.out _).mono ?_; rintro e w4 ⟨rfl,kw4⟩)
    have K4:Kept u.heap.size u.heap.size u w4:=K3.next1 kw4;refine hK.out _ _ K4 (fun hH=>?_)
    clear hK K;refine heldTo_take (i:=15) 49 (.string (⟨#[97,98,111,118,101]⟩ ++ tk ++ ts)) rfl rfl (by kernel_rfl) (by kernel_rfl) (by kernel_rfl) (by kernel_rfl) (fun _ _ _ h=>h) (.inl ⟨by kernel_rfl,fun w9 _=>by go_simp; first | done | rfl⟩) hH ?_
    simp only [sA,sB,sC];refine heldTo_one (i:=17) (by kernel_rfl) rfl (fun K hK=>?_)
    rw [if_pos (by rfl)]
    go_simp
    go_wp2_with (go_at_call 64; refine(HT3.out _).mono ?_; rintro e w5 ⟨rfl,kw5⟩)
    have K5:Kept u.heap.size u.heap.size u w5:=K4.next1 kw5;refine hK.out _ _ K5 (fun hH=>?_)
    clear hK K;refine heldTo_take (i:=18) 52 (.string (⟨#[97,98,111,118,101]⟩ ++ tk ++ ts ++ th)) rfl rfl (by kernel_rfl) (by kernel_rfl) (by kernel_rfl) (by kernel_rfl) (fun _ _ _ h=>h) (.inl ⟨by kernel_rfl,fun w9 _=>by go_simp; first | done | rfl⟩) hH ?_
    simp only [sA,sB,sC];refine heldTo_one (i:=19) (by kernel_rfl) rfl (fun K hK=>?_)
    rw [if_pos (by rfl)]
    go_simp
    go_wp2_with (go_at_call 63; refine(HSM.out _).mono ?_; rintro e w6 ⟨rfl,kw6⟩)
    have K6:Kept u.heap.size u.heap.size u w6:=K5.next1 kw6;refine hK.out _ _ K6 (fun hH=>?_)
    clear hK K;have R6:=(K6.block rb (lt_of_block RU.out) (Nat.ne_of_lt (lt_of_block RU.out))).trans RU.out;refine heldTo_last (by kernel_rfl) rfl (fun K hK=>?_)
    rw [if_pos (by rfl)]
    refine wp_store_row_none 33 _ _ rfl rfl rb cu rfl rfl 33 zeros32 R6 (info32 HCS.out) (by rw [HCS.out]; rfl) HALL.out ?_
    refine hK.out _ _ ?_;clear hK K;refine heldTo_done (by kernel_rfl) ?_ _
    refine NoPanic.normal ?_;have R7:=setRow_heap w6 rb _ cu _ _ R6;have K7:=hid ((KW.out.next1 K6).grown (grown_setRow w6 rb cu) (KW.out.next1 K6).size (fun k e=>by cases e; exact Nat.le_of_not_lt HRB.out))
    generalize w6.setRow rb cu = w7 at R7 K7 ⊢;clear hH q0 q1 q2;go_wp2;refine bodyPost_ret (results_cell_row rfl _ _ rb 33 _ (0,0) _ rfl R7 Try.underlying33 rfl (info32 HCS.out)) rfl ?_
    exact⟨rfl,K7.out⟩
namespace Tt
def setAll (I:List (Nat × Pr))(P:List Pr):List Pr:=I.foldl (fun Q x=>Q.set x.1 x.2) P
theorem setAll_length:∀ (I:List (Nat × Pr)) (P:List Pr),(setAll I P).length = P.length
 | [],_=>rfl
 | x :: I,P=>by
  show(setAll I (P.set x.1 x.2)).length = _;rw [setAll_length I,List.length_set]
theorem setAll_append (I J:List (Nat × Pr))(P:List Pr):setAll (I ++ J) P = setAll J (setAll I P):=List.foldl_append
def pitem (ws:List Int)(ks:List (List UInt8))(H:Nat→List UInt8)(i:Nat):Nat × Pr:=((ws.getD i 0).toNat / 2,⟨true,ks.getD i [],said ks H (ws.length - 1 - i) (i + 1),[]⟩)
def pitems (ws:List Int)(ks:List (List UInt8))(H:Nat→List UInt8):List (Nat × Pr):=(List.range ws.length).map (pitem ws ks H)
theorem pitems_length (ws:List Int)(ks:List (List UInt8))(H:Nat→List UInt8):(pitems ws ks H).length = ws.length:=by rw [pitems,List.length_map,List.length_range]
theorem pitems_at (ws:List Int)(ks:List (List UInt8))(H:Nat→List UInt8)(i:Nat)(hi:i < (pitems ws ks H).length):(pitems ws ks H)[i] = pitem ws ks H i:=by
 simp only [pitems,List.getElem_map,List.getElem_range]
def down (ws:List Int)(ks:List (List UInt8))(H:Nat→List UInt8)(P:List Pr)(k:Nat):List Pr:=setAll ((pitems ws ks H).drop k).reverse P
def upto (ws:List Int)(ks:List (List UInt8))(H:Nat→List UInt8)(P:List Pr)(k:Nat):List Pr:=setAll ((pitems ws ks H).take k) P
section
variable (ws:List Int) (ks:List (List UInt8)) (H:Nat→List UInt8) (P:List Pr)
theorem upto_next (k:Nat)(hk:k < ws.length):upto ws ks H P (k + 1) = (upto ws ks H P k).set (pitem ws ks H k).1 (pitem ws ks H k).2:=by
 have h:k < (pitems ws ks H).length:=by rw [pitems_length]; exact hk
 rw [upto,List.take_succ_eq_append_getElem h,setAll_append,pitems_at]
 rfl
theorem upto_length (k:Nat):(upto ws ks H P k).length = P.length:=setAll_length _ _
end
def wayX (ws:List Int)(place:Int):Nat→Int
 | 0=>2 * place
 | j + 1=>ws.getD j 0
def sideH (L:List Lf)(P:List Pr)(ws:List Int)(place:Int)(j:Nat):List UInt8:=hashNode L P (Bo.Beside L.length (wayX ws place j)).toNat
def pathWay (L:List Lf)(x:Int):List Int:=Bo.Direct L.length x
def pathErr (L:List Lf)(x:Int)(kn:Nat):Int:=if none L x then 7 else if (pathWay L x).length = kn then 0 else 16
def pathL (L:List Lf)(P:List Pr)(x:Int)(pub:List UInt8)(ks:List (List UInt8)):List Lf:=
 if pathErr L x ks.length = 0 then (match L[x.toNat]? with | some l=>L.set x.toNat { l with pub:=pub,abv:=said ks (sideH L P (pathWay L x) x) (pathWay L x).length 0 } | _=>[]) else []
def pathP (L:List Lf)(P:List Pr)(x:Int)(ks:List (List UInt8)):List Pr:=
 if pathErr L x ks.length = 0 then upto (pathWay L x) ks (sideH L P (pathWay L x) x) P (pathWay L x).length else []
end Tt
theorem refpath_none (lv pv:Value)(L:List Lf)(P:List Pr)(x:Int)(pub:List UInt8)(hpub:pub.length = 32)(kv:Value)(w:World)(hL:Lvs w lv L)(hP:Pts w pv P)(hn:L.length≤1000)(hno:Tt.none L x = true):
  Calls Try.prog 16 #[.agg #[lv,pv],.int .i64 x,.agg (bcells pub).toArray,kv] w fun e w'=>e = .returned (.tuple #[.agg #[.slice none 0 0,.slice none 0 0],.int .i64 7])∧Kept w.heap.size w.heap.size w w':=by
 have HLK:=hid (fun(u:World) (kk:Kept w.heap.size w.heap.size w u)=>refnone_calls lv pv L x u (hL.kept kk) hn (by obtain⟨pad,pc,rfl⟩:=hP.shape; exact⟨_,_,_,rfl⟩))
 rw [hno] at HLK;clear hno;obtain⟨lad,lc,rfl⟩:=hL.shape;obtain⟨pad,pc,rfl⟩:=hP.shape;obtain⟨ln,hln⟩:∃ ln,ln = L.length:=⟨_,rfl⟩;obtain⟨pn,hpn⟩:∃ pn,pn = P.length:=⟨_,rfl⟩;rw [← hln,← hpn] at HLK ⊢;have hln9:(ln:Int)≤1000:=by omega
 have HLN:=hid hln;have HPN:=hid hpn;have HPB:=hid hpub;obtain⟨D,hD⟩:∃ D,D = (bcells pub).toArray:=⟨_,rfl⟩;have HDE:=hid hD;have hsz:D.size = 32:=by rw [hD,List.size_toArray,bcells_length,hpub]
 have HSZ:=hid hsz;have hinf:(Try.prog.info? 34).map (·.size) = some D.size:=by rw [hD]; exact hashInfoT (by rw [bcells_length,hpub])
 have HINF:=hid hinf;have HALL:=hid (show D.all (·.oneCell') = true by rw [hD]; exact bytesAll pub)
 rw [← hD];clear hpub hD hsz hinf;clear hL hP hn hln hpn;have k1:=kA w (.cells #[.slice lad ln lc,.slice pad pn pc] 27)
 have t1:=heap_new w (.cells #[.slice lad ln lc,.slice pad pn pc] 27)
 have s1:(w.alloc (.cells #[.slice lad ln lc,.slice pad pn pc] 27)).heap.size = w.heap.size + 1:=by simp
 go_enter Try.func16,Try.ntmps16
 go_upto_region 1 with fail
 generalize w.alloc (.cells #[.slice lad ln lc,.slice pad pn pc] 27) = wa at k1 t1 s1 ⊢
 have k2:=kA wa (.cells D 34)
 have e2:=heap_new wa (.cells D 34)
 have s2:(wa.alloc (.cells D 34)).heap.size = wa.heap.size + 1:=by simp
 have t2:=rk t1 k2;generalize wa.alloc (.cells D 34) = wb at k2 e2 s2 t2 ⊢
 have k3:=kA wb (.cells #[.slice none 0 0,.slice none 0 0] 27)
 have r3:=heap_new wb (.cells #[.slice none 0 0,.slice none 0 0] 27)
 have s3:(wb.alloc (.cells #[.slice none 0 0,.slice none 0 0] 27)).heap.size = wb.heap.size + 1:=by simp
 have t3:=rk t2 k3;have e3:=rk e2 k3;generalize wb.alloc (.cells #[.slice none 0 0,.slice none 0 0] 27) = w1 at k3 r3 s3 t3 e3 ⊢
 have K1:=hid ((k1.next1 k2).next1 k3);rw [s2,s1] at r3 s3;rw [s1] at e3
 (try rw [s2])
 (try rw [s1])
 obtain⟨tb,htb⟩:∃ tb,tb = w.heap.size:=⟨_,rfl⟩;obtain⟨lb,hlb⟩:∃ lb,lb = w.heap.size + 1:=⟨_,rfl⟩;obtain⟨rb,hrb⟩:∃ rb,rb = w.heap.size + 1 + 1:=⟨_,rfl⟩;rw [← hrb] at r3
 (try rw [← hrb])
 rw [← hlb] at e3
 (try rw [← hlb])
 rw [← htb] at t3
 (try rw [← htb])
 have HTL:=hid (show tb≠lb by omega)
 have HTR:=hid (show tb≠rb by omega)
 have HTB:=hid (show ¬ tb < w.heap.size by omega)
 have HRB:=hid (show ¬ rb < w.heap.size by omega)
 have HWS:=hid (show w.heap.size≤w1.heap.size by omega)
 have T1:=hid t3;have R1:=hid r3;have E1:=hid e3;clear k1 t1 s1 k2 e2 s2 t2 k3 r3 s3 t3 e3 htb hlb hrb;refine wp_region_lit ?_;refine @wpList_load_known _ _ _ _ _ _ _ ?_ 27 (.tmp 4) rfl (tb) (0) rfl (.agg #[.slice lad ln lc,.slice pad pn pc]) (run_loadVar_row w1 tb 27 27 _ (0,0) _ T1.out Try.underlying27 rfl treeInfo) ?_;kernel_rfl
 simp only [Act.put,sA,sB,sC];refine @wQ _ _ _ _ _ _ _ ?_ ?_;kernel_rfl;intro K hK;go_simp;refine hK _ _ ?_;clear hK K;refine @wQ _ _ _ _ _ _ _ ?_ ?_;kernel_rfl;intro K hK;go_simp;go_at_call 43
 refine(HLK.out _ K1.out).mono ?_;rintro e w2 ⟨rfl,k2⟩;have K2:=hid (K1.out.next1 k2);have T2:=hid (rk T1.out k2);have R2:=hid (rk R1.out k2);clear k2;refine hK _ _ ?_;clear hK K
 go_upto_region 2 with fail
 refine wp_region_lit ?_;refine @wpL_build0 _ _ _ _ _ _ _ ?_ 27 rfl _ (build_tree0 _) ?_;kernel_rfl
 simp only [Act.put,sA,sB,sC];refine wpList_store_row rfl 27 _ _ rfl (rb) #[.slice none 0 0,.slice none 0 0] rfl rfl 27 #[.slice none 0 0,.slice none 0 0] R2.out treeInfo rfl (tree_all _ _ _ _ _ _) ?_
 simp only [Act.put];refine @wQ _ _ _ _ _ _ _ ?_ ?_;kernel_rfl;intro K hK;go_simp;refine hK _ _ ?_;clear hK K;have R3:=setRow_heap w2 rb _ #[.slice none 0 0,.slice none 0 0] _ _ R2.out;have K3:=hid (K2.out.grown (grown_setRow w2 rb #[.slice none 0 0,.slice none 0 0]) K2.out.size (fun k e=>by cases e; exact Nat.le_of_not_lt HRB.out))
 generalize w2.setRow rb #[.slice none 0 0,.slice none 0 0] = w3 at R3 K3 ⊢;go_wp2;refine bodyPost_ret (results_row2 rfl _ _ rb 27 _ (0,0) _ rfl R3 Try.underlying27 rfl treeInfo) rfl ?_
 exact⟨rfl,K3.out⟩
theorem refpath_bad (lv pv:Value)(L:List Lf)(P:List Pr)(x:Int)(pub:List UInt8)(hpub:pub.length = 32)(kad:Option Addr)(kn kc:Nat)(w:World)(hL:Lvs w lv L)(hP:Pts w pv P)(hn:L.length≤1000)(hno:Tt.none L x = false)(hkn:(Bo.Direct L.length x).length≠kn):
  Calls Try.prog 16 #[.agg #[lv,pv],.int .i64 x,.agg (bcells pub).toArray,.slice kad kn kc] w fun e w'=>e = .returned (.tuple #[.agg #[.slice none 0 0,.slice none 0 0],.int .i64 16])∧Kept w.heap.size w.heap.size w w':=by
 have HLK:=hid (fun(u:World) (kk:Kept w.heap.size w.heap.size w u)=>refnone_calls lv pv L x u (hL.kept kk) hn (by obtain⟨pad,pc,rfl⟩:=hP.shape; exact⟨_,_,_,rfl⟩))
 rw [hno] at HLK;clear hno;obtain⟨m,hm⟩:∃ m,(Bo.Direct L.length x).length = m:=⟨_,rfl⟩;rw [hm] at hkn
 have HRD:=hid (fun(u:World)=>(show Calls Try.prog 45 #[.int .i64 (L.length:Int),.int .i64 x] u fun e u'=>∃ ad c,e = .returned (.slice ad m c)∧Kept u.heap.size u.heap.size u u' from(rdirect_calls (L.length:Int) x u).mono fun e u' ⟨v,h1,h2,h3⟩=>by
  obtain⟨ad,c,rfl⟩:=h2.len;rw [hm] at h1
  exact⟨ad,c,h1,h3⟩))
 have HNE:=hid (show((m:Int) == (kn:Int)) = false by rw [beq_eq_false_iff_ne]; omega)
 clear hm hkn;obtain⟨lad,lc,rfl⟩:=hL.shape;obtain⟨pad,pc,rfl⟩:=hP.shape;obtain⟨ln,hln⟩:∃ ln,ln = L.length:=⟨_,rfl⟩;obtain⟨pn,hpn⟩:∃ pn,pn = P.length:=⟨_,rfl⟩;rw [← hln,← hpn] at HLK;rw [← hln] at HRD;rw [← hln,← hpn];have hln9:(ln:Int)≤1000:=by omega
 have HLN:=hid hln;have HPN:=hid hpn;have HPB:=hid hpub;obtain⟨D,hD⟩:∃ D,D = (bcells pub).toArray:=⟨_,rfl⟩;have HDE:=hid hD;have hsz:D.size = 32:=by rw [hD,List.size_toArray,bcells_length,hpub]
 have HSZ:=hid hsz;have hinf:(Try.prog.info? 34).map (·.size) = some D.size:=by rw [hD]; exact hashInfoT (by rw [bcells_length,hpub])
 have HINF:=hid hinf;have HALL:=hid (show D.all (·.oneCell') = true by rw [hD]; exact bytesAll pub)
 rw [← hD];clear hpub hD hsz hinf;clear hL hP hn hln hpn;have k1:=kA w (.cells #[.slice lad ln lc,.slice pad pn pc] 27)
 have t1:=heap_new w (.cells #[.slice lad ln lc,.slice pad pn pc] 27)
 have s1:(w.alloc (.cells #[.slice lad ln lc,.slice pad pn pc] 27)).heap.size = w.heap.size + 1:=by simp
 go_enter Try.func16,Try.ntmps16
 go_upto_region 1 with fail
 generalize w.alloc (.cells #[.slice lad ln lc,.slice pad pn pc] 27) = wa at k1 t1 s1 ⊢
 have k2:=kA wa (.cells D 34)
 have e2:=heap_new wa (.cells D 34)
 have s2:(wa.alloc (.cells D 34)).heap.size = wa.heap.size + 1:=by simp
 have t2:=rk t1 k2;generalize wa.alloc (.cells D 34) = wb at k2 e2 s2 t2 ⊢
 have k3:=kA wb (.cells #[.slice none 0 0,.slice none 0 0] 27)
 have r3:=heap_new wb (.cells #[.slice none 0 0,.slice none 0 0] 27)
 have s3:(wb.alloc (.cells #[.slice none 0 0,.slice none 0 0] 27)).heap.size = wb.heap.size + 1:=by simp
 have t3:=rk t2 k3;have e3:=rk e2 k3;generalize wb.alloc (.cells #[.slice none 0 0,.slice none 0 0] 27) = w1 at k3 r3 s3 t3 e3 ⊢
 have K1:=hid ((k1.next1 k2).next1 k3);rw [s2,s1] at r3 s3;rw [s1] at e3
 (try rw [s2])
 (try rw [s1])
 obtain⟨tb,htb⟩:∃ tb,tb = w.heap.size:=⟨_,rfl⟩;obtain⟨lb,hlb⟩:∃ lb,lb = w.heap.size + 1:=⟨_,rfl⟩;obtain⟨rb,hrb⟩:∃ rb,rb = w.heap.size + 1 + 1:=⟨_,rfl⟩;rw [← hrb] at r3
 (try rw [← hrb])
 rw [← hlb] at e3
 (try rw [← hlb])
 rw [← htb] at t3
 (try rw [← htb])
 have HTL:=hid (show tb≠lb by omega)
 have HTR:=hid (show tb≠rb by omega)
 have HTB:=hid (show ¬ tb < w.heap.size by omega)
 have HRB:=hid (show ¬ rb < w.heap.size by omega)
 have HWS:=hid (show w.heap.size≤w1.heap.size by omega)
 have T1:=hid t3;have R1:=hid r3;have E1:=hid e3;clear k1 t1 s1 k2 e2 s2 t2 k3 r3 s3 t3 e3 htb hlb hrb;refine wp_region_lit ?_;refine @wpList_load_known _ _ _ _ _ _ _ ?_ 27 (.tmp 4) rfl (tb) (0) rfl (.agg #[.slice lad ln lc,.slice pad pn pc]) (run_loadVar_row w1 tb 27 27 _ (0,0) _ T1.out Try.underlying27 rfl treeInfo) ?_;kernel_rfl
 simp only [Act.put,sA,sB,sC];refine @wQ _ _ _ _ _ _ _ ?_ ?_;kernel_rfl;intro K hK;go_simp;refine hK _ _ ?_;clear hK K;refine @wQ _ _ _ _ _ _ _ ?_ ?_;kernel_rfl;intro K hK;go_simp;go_at_call 43
 refine(HLK.out _ K1.out).mono ?_;rintro e w2 ⟨rfl,k2⟩;have K2:=hid (K1.out.next1 k2);have T2:=hid (rk T1.out k2);have R2:=hid (rk R1.out k2);clear k2;refine hK _ _ ?_;clear hK K;have t0:=load_slice (d:=.int .u8) (two_cell0 T2.out) (.inl rfl) rfl
 go_upto_region 3 with fail
 refine wp_region_lit ?_;refine @wQ _ _ _ _ _ _ _ ?_ ?_;kernel_rfl;intro K hK;go_simp;refine hK _ _ ?_;clear hK K;refine @wpList_load_known _ _ _ _ _ _ _ ?_ 24 (.tmp 17) rfl (tb) (0) rfl (.slice lad ln lc) (t0) ?_;kernel_rfl
 simp only [Act.put,sA,sB,sC];iterate 2 (refine @wQ _ _ _ _ _ _ _ ?_ ?_;kernel_rfl;intro K hK;go_simp;refine hK _ _ ?_;clear hK K)
 refine @wQ _ _ _ _ _ _ _ ?_ ?_;kernel_rfl;intro K hK;go_simp;go_at_call 45
 refine(HRD.out _).mono ?_;rintro e w3 ⟨dad,dc,rfl,k3⟩;have K3:=hid (K2.out.next1 k3);have T3:=hid (rk T2.out k3);have R3:=hid (rk R2.out k3);clear k3;clear t0;refine hK _ _ ?_;clear hK K;refine @wQ _ _ _ _ _ _ _ ?_ ?_;kernel_rfl;intro K hK;go_simp;refine hK _ _ ?_;clear hK K;have hne:=HNE.out
 go_upto_region 5 with fail
 refine wp_region_lit ?_;refine @wpL_build0 _ _ _ _ _ _ _ ?_ 27 rfl _ (build_tree0 _) ?_;kernel_rfl
 simp only [Act.put,sA,sB,sC];refine wpList_store_row rfl 27 _ _ rfl (rb) #[.slice none 0 0,.slice none 0 0] rfl rfl 27 #[.slice none 0 0,.slice none 0 0] R3.out treeInfo rfl (tree_all _ _ _ _ _ _) ?_
 simp only [Act.put];refine @wQ _ _ _ _ _ _ _ ?_ ?_;kernel_rfl;intro K hK;go_simp;refine hK _ _ ?_;clear hK K;have R9:=setRow_heap w3 rb _ #[.slice none 0 0,.slice none 0 0] _ _ R3.out;have K9:=hid (K3.out.grown (grown_setRow w3 rb #[.slice none 0 0,.slice none 0 0]) K3.out.size (fun k e=>by cases e; exact Nat.le_of_not_lt HRB.out))
 generalize w3.setRow rb #[.slice none 0 0,.slice none 0 0] = w9 at R9 K9 ⊢;go_wp2;refine bodyPost_ret (results_row2 rfl _ _ rb 27 _ (0,0) _ rfl R9 Try.underlying27 rfl treeInfo) rfl ?_
 exact⟨rfl,K9.out⟩
end Go.Proofs.Ytlpabcnhcbgfjaa
