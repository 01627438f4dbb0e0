/-
 TreePuts; TreeRefPut; TreeInsert; TreeLoosen: several texts in one.
-/
import Derived.Test.YtinebhdilnndaaaGreatDoorTreeAdd
import Derived.Test.YtinebhdilnndaaaGreatDoorHB
import Derived.Test.YtinebhdilnndaaaGreatDoorHA
import Derived.Test.YtinebhdilnndaaaGreatDoorFindI
import Derived.Laws.NewBlocks
set_option maxRecDepth 100000
set_option maxHeartbeats 6400000
namespace Go.Proofs.YtinebhdilnndaaaGreatDoor
open Go.RowKit Go.Lib
open List renaming setIfInBounds_toArray -> sA, set_cons_zero -> sB, set_cons_succ -> sC
open BigFrame renaming wpList_want -> wQ
def Bo.nodN:List Nat->Bool
 | []=>true
 | y :: D=>if Bo.memN D y then false else Bo.nodN D
def Bo.dn (n:Nat):Bool:=(List.range n).all λa=>Bo.nodN ((Bo.ups n ((2 * a:Nat):Int)).map λy=>y.toNat / 2)
theorem Bo.dn_all:((List.range 65).all Bo.dn) = true:=by decide +kernel
theorem Bo.dir_nodup {n a:Nat}(hn:n<=64)(ha:a < n):Bo.nodN ((Bo.Direct (n:Int) (a:Int)).map λy=>y.toNat / 2) = true:=by
 rw [Bo.Direct,if_pos (Bo.leaf_of ha hn),show(2:Int) * (a:Int) = ((2 * a:Nat):Int) by omega]
 exact List.all_eq_true.1 (List.all_eq_true.1 Bo.dn_all n (List.mem_range.2 (by omega))) a (List.mem_range.2 ha)
namespace Tt
theorem loosen1_get (x:Nat)(P:List Pr)(y:Int)(j:Nat):(loosen1 x P y)[j]? = if y.toNat / 2 = j then P[j]?.map (loosened x) else P[j]?:=by
 unfold loosen1
 split
 ·rename_i p hp
  rw [List.getElem?_set]
  by_cases h:y.toNat / 2 = j
  ·rw [if_pos h,if_pos h,<- h,hp,if_pos (List.getElem?_eq_some_iff.1 hp).1]
   rfl
  ·rw [if_neg h,if_neg h]
 ·rename_i hp
  by_cases h:y.toNat / 2 = j
  ·rw [if_pos h,<- h,hp]
   rfl
  ·rw [if_neg h]
theorem loosens_get (x:Nat)(j:Nat):∀ (W:List Int) (P:List Pr),Bo.nodN (W.map λy=>y.toNat / 2) = true->(loosens x W P)[j]? = if W.any (λy=>y.toNat / 2 == j) = true then P[j]?.map (loosened x) else P[j]?
 | [],P,_=>by
  rw [List.any_nil,if_neg (by decide)]
  rfl
 | y :: W,P,h=>by
  rw [List.map_cons,Bo.nodN] at h
  split at h
  ·cases h
  ·rename_i hm
   show(loosens x W (loosen1 x P y))[j]? = _;rw [loosens_get x j W _ h,loosen1_get,List.any_cons]
   by_cases hj:y.toNat / 2 = j
   ·have ha:W.any (λy=>y.toNat / 2 == j) = false:=by
     rw [Bo.memN_any,List.any_map,hj] at hm;exact Bool.eq_false_iff.2 hm
    rw [ha,if_neg (by decide),if_pos hj,show(y.toNat / 2 == j) = true by rw [beq_iff_eq]; exact hj,Bool.true_or,if_pos rfl]
   ·rw [if_neg hj,show(y.toNat / 2 == j) = false by rw [beq_eq_false_iff_ne]; exact hj,Bool.false_or]
def holdPut1 (n:Int)(x:Nat)(P:List Pr)(i:Nat):List Pr:=
 match P[i]? with
 | Option.some p=>if (p.set && Bo.Holds n ((2 * i + 1:Nat):Int) (x:Int)) = true then P.set i (loosened x p) else P
 | Option.none=>P
def holdPuts (n:Int)(x:Nat)(P:List Pr):Nat->List Pr
 | 0=>P
 | k + 1=>holdPut1 n x (holdPuts n x P k) k
theorem holdPut1_length (n:Int)(x:Nat)(P:List Pr)(i:Nat):(holdPut1 n x P i).length = P.length:=by
 unfold holdPut1
 split
 ·split
  ·rw [List.length_set]
  ·rfl
 ·rfl
theorem holdPuts_length (n:Int)(x:Nat)(P:List Pr):∀ k,(holdPuts n x P k).length = P.length
 | 0=>rfl
 | k + 1=>by rw [holdPuts,holdPut1_length,holdPuts_length n x P k]
theorem loosened_unset {p:Pr}(x:Nat)(h:p.set = false):loosened x p = p:=by
 unfold loosened;rw [if_neg (by rw [h]; decide)]
theorem holdPut1_get (n:Int)(x:Nat)(P:List Pr)(i j:Nat):(holdPut1 n x P i)[j]? = if i = j/\Bo.Holds n ((2 * i + 1:Nat):Int) (x:Int) = true then P[j]?.map (loosened x) else P[j]?:=by
 unfold holdPut1
 split
 ·rename_i p hp
  by_cases hs:p.set = true
  ·by_cases hh:Bo.Holds n ((2 * i + 1:Nat):Int) (x:Int) = true
   ·rw [if_pos (by rw [hs,hh]; rfl),List.getElem?_set]
    by_cases h:i = j
    ·have hc:i = j/\Bo.Holds n ((2 * i + 1:Nat):Int) (x:Int) = true:=⟨h,hh⟩
     rw [if_pos h,if_pos (List.getElem?_eq_some_iff.1 hp).1,if_pos hc,<- h,hp]
     rfl
    ·rw [if_neg h,if_neg (λe=>h e.1)]
   ·rw [if_neg (by rw [hs,Bool.true_and]; exact hh),if_neg (λe=>hh e.2)]
  ·have hs2:p.set = false:=Bool.eq_false_iff.2 hs
   rw [if_neg (by rw [hs2,Bool.false_and]; decide)]
   by_cases h:i = j
   ·rw [<- h,hp,Option.map_some,loosened_unset x hs2]
    split <;> rfl
   ·rw [if_neg (λe=>h e.1)]
 ·rename_i hp
  by_cases h:i = j
  ·rw [<- h,hp]
   split <;> rfl
  ·rw [if_neg (λe=>h e.1)]
theorem holdPuts_get (n:Int)(x:Nat)(P:List Pr)(j:Nat):∀ k,(holdPuts n x P k)[j]? = if j < k/\Bo.Holds n ((2 * j + 1:Nat):Int) (x:Int) = true then P[j]?.map (loosened x) else P[j]?
 | 0=>by
  rw [if_neg (λh=>Nat.not_lt_zero _ h.1)]
  rfl
 | k + 1=>by
  rw [holdPuts,holdPut1_get,holdPuts_get n x P j k]
  by_cases hkj:k = j
  ·subst hkj
   have h1:¬ (k < k/\Bo.Holds n ((2 * k + 1:Nat):Int) (x:Int) = true):=λh=>Nat.lt_irrefl _ h.1
   rw [if_neg h1]
   by_cases hh:Bo.Holds n ((2 * k + 1:Nat):Int) (x:Int) = true
   ·have h2:k < k + 1/\Bo.Holds n ((2 * k + 1:Nat):Int) (x:Int) = true:=⟨Nat.lt_succ_self _,hh⟩
    rw [if_pos ⟨rfl,hh⟩,if_pos h2]
   ·rw [if_neg (λh=>hh h.2),if_neg (λh=>hh h.2)]
  ·rw [if_neg (λh=>hkj h.1)]
   have h2:(j < k + 1) = (j < k):=by apply propext; omega
   simp only [h2]
theorem holdPuts_loosens {n k:Nat}{P:List Pr}(hn:n<=64)(hk:k < n)(hp:P.length = n - 1):holdPuts (n:Int) k P P.length = loosens k (Bo.Direct (n:Int) (k:Int)) P:=by
 refine List.ext_getElem? λj=>?_
 rw [holdPuts_get,loosens_get k j _ P (Bo.dir_nodup hn hk)]
 by_cases hj:j < P.length
 ·rw [Bo.dir_holds hn hk (by omega)]
  by_cases h:Bo.Holds (n:Int) ((2 * j + 1:Nat):Int) (k:Int) = true
  ·rw [if_pos ⟨hj,h⟩,if_pos h]
  ·rw [if_neg (λh2=>h h2.2),if_neg h]
 ·rw [List.getElem?_eq_none (by omega),if_neg (λh=>hj h.1)]
  split <;> rfl
theorem tput_length:∀ (l:List Int) (x:Int),(put l x).length = l.length + 1
 | [],_=>rfl
 | y :: t,x=>by
  rw [put]
  split
  ·rfl
  ·rw [List.length_cons,tput_length t x,List.length_cons]
theorem loosened_loose (x:Nat)(p:Pr):(loosened x p).loose.length<=p.loose.length + 1:=by
 unfold loosened
 split
 ·rw [tput_length]; exact Nat.le_refl _
 ·exact Nat.le_succ _
theorem holdPuts_loose {n:Int}{x:Nat}{P:List Pr}{b:Nat}(h:∀ p∈P,p.loose.length<=b)(k:Nat):∀ p∈holdPuts n x P k,p.loose.length<=b + 1:=λp hp=>by
 obtain⟨j,hj⟩:=List.getElem?_of_mem hp;rw [holdPuts_get] at hj
 split at hj
 ·obtain⟨q,hq,rfl⟩:=Option.map_eq_some_iff.1 hj
  exact Nat.le_trans (loosened_loose x q) (Nat.succ_le_succ (h q (List.mem_of_getElem? hq)))
 ·exact Nat.le_succ_of_le (h p (List.mem_of_getElem? hj))
theorem firstBlank_lt:∀ (L:List Lf) (i:Nat),i < firstBlank L->∃ l,L[i]? = some l/\l.name≠0
 | [],i,h=>absurd h (Nat.not_lt_zero _)
 | l :: L,i,h=>by
  rw [firstBlank] at h
  by_cases h0:(l.name == 0) = true
  ·rw [if_pos h0] at h
   exact absurd h (Nat.not_lt_zero _)
  ·rw [if_neg h0] at h
   match i,h with
   | 0,_=>exact⟨l,rfl,λe=>h0 (by rw [e]; rfl)⟩
   | i + 1,h=>exact firstBlank_lt L i (by omega)
theorem firstBlank_is:∀ (L:List Lf),firstBlank L < L.length->∃ l,L[firstBlank L]? = some l/\l.name = 0
 | [],h=>absurd h (Nat.not_lt_zero _)
 | l :: L,h=>by
  rw [firstBlank] at h |-
  by_cases h0:(l.name == 0) = true
  ·rw [if_pos h0]
   exact⟨l,rfl,beq_iff_eq.1 h0⟩
  ·rw [if_neg h0] at h |-
   rw [List.getElem?_cons_succ];exact firstBlank_is L (by rw [List.length_cons] at h; omega)
end Tt
section
variable {B:Nat->Prop} {w:World} {lv:Value} {g n c:Nat} {L:List Lf} {P:List Pr} {SL:List Value}
theorem Mine.prow (h:Mine B w lv (.slice (some ⟨g,0,none⟩) n c) L P SL)(i:Nat)(hi:i < P.length):∃ cur:List Value,w.heap[g]? = some (.cells cur.toArray 68 (0,0))/\i * 66 + 65 < cur.length:=by
 have hzl:=zip_len h
 rcases h.po.2.2 with ⟨h',_⟩ | ⟨g',cap',cs,h',_,hgx,hnc,_,hsz,_⟩
 ·simp at h'
 ·injection h' with hx1 hx2 hx3
  injection hx1 with hx1
  injection hx1 with hx1 _ _
  subst hx1;refine⟨cs.toList,by rw [Array.toArray_toList]; exact hgx,?_⟩
  rw [Array.length_toList,hsz];rw [hzl] at hnc;have:=Nat.mul_le_mul_right 66 (Nat.le_trans hi hnc);rw [Nat.succ_mul] at this
  omega
end
theorem put_over:∀ (l r:List Int) (x:Int),l.any (λy=>decide (x < y)) = false->Tt.put (l ++ r) x = l ++ Tt.put r x
 | [],_,_,_=>rfl
 | y :: l,r,x,h=>by
  rw [List.any_cons,Bool.or_eq_false_iff,decide_eq_false_iff_not] at h;rw [List.cons_append,Tt.put,if_neg h.1,put_over l r x h.2,List.cons_append]
theorem put_done:∀ (l r:List Int) (x:Int),l.any (λy=>decide (x < y)) = true->Tt.put (l ++ r) x = Tt.put l x ++ r
 | [],_,_,h=>nomatch h
 | y :: l,r,x,h=>by
  rw [List.any_cons,Bool.or_eq_true,decide_eq_true_eq] at h;rw [List.cons_append,Tt.put,Tt.put]
  by_cases h1:x < y
  ·rw [if_pos h1,if_pos h1]
   rfl
  ·rw [if_neg h1,if_neg h1,put_done l r x (h.resolve_left h1),List.cons_append]
theorem put_len:∀ (l:List Int) (x:Int),(Tt.put l x).length = l.length + 1
 | [],_=>rfl
 | y :: t,x=>by
  rw [Tt.put]
  split
  ·rfl
  ·rw [List.length_cons,put_len t x,List.length_cons]
def putOut (l:List Int)(x:Int)(dn:Bool):List Int:=if dn then Tt.put l x else l
theorem putOut_len (l:List Int)(x:Int)(dn:Bool):(putOut l x dn).length<=l.length + 1:=by
 unfold putOut
 split
 ·rw [put_len]; exact Nat.le_refl _
 ·exact Nat.le_succ _
theorem refput_calls (v:Value)(l:List Int)(x:Int)(w:World)(hv:Nums w v l)(hl:l.length<=1000):
  Calls Tryz.prog 64 #[v,.int .i64 x] w λe w'=>∃ v',e = .returned v'/\Ints w' w.heap.size v' (Tt.put l x)/\Kept w.heap.size w.heap.size w w':=by
 obtain⟨ad,c,g,o,rfl,hc⟩:=hv;obtain⟨ln,hln⟩:∃ ln,ln = l.length:=⟨_,rfl⟩;rw [<- hln];have hln9:(ln:Int)<=1000:=by omega
 have HLN:=hid hln;have HC:=hid hc;clear hc hln hl
 go_enter Tryz.func64,Tryz.ntmps64
 have K1:=hid (Kept.refl w.heap.size w.heap.size w);have I1:=hid (show Ints w w.heap.size (.slice none 0 0) (putOut (l.take 0) x false) from World.ownsRow_nil _ _ _ _);go_wp2
 go_loopw [5,6,7] (λs5 s6 s7 wr=>∃ i:Nat,∃ dn:Bool,∃ v,s5 = v/\s6 = .bool dn/\s7 = .int .i64 (i:Int)/\Hid (i<=ln)/\Hid (dn = (l.take i).any (λy=>decide (x < y)))/\Hid (Kept w.heap.size w.heap.size w wr)/\Hid (Ints wr w.heap.size v (putOut (l.take i) x dn))) (λ_ _ s7 _=>ln - (RowKit.intOf s7).toNat)
 case atStart=>exact⟨0,false,_,rfl,rfl,rfl,hid (Nat.zero_le _),hid rfl,K1,I1⟩
 case round=>
  clear K1 I1;obtain⟨i,dn,v,rfl,rfl,rfl,hi,HD,HK,HI⟩:=hrel;obtain⟨vad,vn,vc,rfl⟩:=one_slice HI.out
  by_cases hlt:i < ln
  ·have hiL:i < l.length:=by rw [<- HLN.out]; exact hlt
   have hlti:(i:Int) < (ln:Int):=by omega
   have hi0:¬ (i:Int) < 0:=by omega
   obtain⟨rfl,hg,hcell⟩:=HC.out i hiL;obtain⟨y,hy⟩:∃ y,y = l[i]:=⟨_,rfl⟩;rw [<- hy] at hcell;have c0:=(HK.out.cell (p:=⟨g,o + i,none⟩) hg (Nat.ne_of_lt hg)).trans hcell;have HCE:=hid hcell;have HTK:=hid (show l.take (i + 1) = l.take i ++ [y] by rw [hy]; exact List.take_succ_eq_append_getElem hiL)
   have HTL:=hid (show(l.take i).length<=1000 by rw [List.length_take]; have:=HLN.out; omega)
   have HGS:=hid hg;have HLT:=hid hlt;clear hlt hi hiL hg hcell hy
   cases dn with
   | true=>
    have HNX:=hid (show putOut (l.take i) x true ++ [y] = putOut (l.take (i + 1)) x true by unfold putOut; rw [if_pos rfl,if_pos rfl,HTK.out,put_done _ _ _ HD.out.symm])
    have HDX:=hid (show true = (l.take (i + 1)).any (λy=>decide (x < y)) by rw [HTK.out,List.any_append,<- HD.out,Bool.true_or])
    go_upto_region 6 with fail
    refine wp_region_lit ?_;iterate 3 (refine wW λK hK=>?_;go_simp;apply hK;clear hK K)
    (iterate 6 (refine @wpList_skip _ _ _ _ _ _ _ ?_ ?_;kernel_rfl;simp only [Act.put,sA,sB,sC]));refine wW λK hK=>?_;go_simp;apply hK;clear hK K;have ib3:=HI.out.alloc (.cells #[.int .i64 y] 3)
    have kb3:=HK.out.alloc HK.out.size (.cells #[.int .i64 y] 3)
    obtain⟨v3,w3,e3,i3,g3⟩:=append_intR _ _ _ _ y ib3 wr.heap.size 1 (one_cellT (heap_new wr (.cells #[.int .i64 y] 3))) (by have:=putOut_len (l.take i) x true; have:=HTL.out; omega) kb3.size
    have k3:=kb3.grown g3 kb3.size (λk e=>(World.ownsRow.lt ib3 k e).1)
    rw [HNX.out] at i3;obtain⟨vad3,vn3,vc3,hv3⟩:=one_slice i3;subst hv3;have E3:=hid e3;have I3:=hid i3;have K3:=hid k3;clear ib3 kb3 e3 i3 g3 k3
    go_upto_region 9 with fail
    refine wp_region_lit ?_;iterate 6 (refine wW λK hK=>?_;go_simp;apply hK;clear hK K)
    refine wpList_append_known rfl (.tmp 28) (.tmp 33) 38 38 38 rfl rfl (.slice vad vn vc) (.slice (some ⟨wr.heap.size,0,none⟩) 1 1) rfl rfl E3.out ?_
    simp only [Act.put,sA,sB,sC];refine wW λK hK=>?_;go_simp;apply hK;clear hK K;clear c0;go_wp2
    go_roundw
    case rel=>exact⟨i + 1,true,_,rfl,rfl,by simp,hid HLT.out,HDX,K3,I3⟩
    case measure=>have:=HLT.out; simp [RowKit.intOf]; omega
   | false=>
    by_cases hxy:x < y
    ·have HNW:=hid (show(putOut (l.take i) x false ++ [x]) ++ [y] = putOut (l.take (i + 1)) x true by
      unfold putOut;rw [if_neg (by decide),if_pos rfl,HTK.out,put_over _ _ _ HD.out.symm,Tt.put,if_pos hxy,List.append_assoc]
      rfl)
     have HDX:=hid (show true = (l.take (i + 1)).any (λy=>decide (x < y)) by rw [HTK.out,List.any_append,List.any_cons,decide_eq_true hxy,Bool.true_or,Bool.or_true])
     go_upto_region 6 with fail
     refine wp_region_lit ?_;iterate 10 (refine wW λK hK=>?_;go_simp;apply hK;clear hK K)
     have ib3:=HI.out.alloc (.cells #[.int .i64 x] 3)
     have kb3:=HK.out.alloc HK.out.size (.cells #[.int .i64 x] 3)
     obtain⟨v3,w3,e3,i3,g3⟩:=append_intR _ _ _ _ x ib3 wr.heap.size 1 (one_cellT (heap_new wr (.cells #[.int .i64 x] 3))) (by have:=putOut_len (l.take i) x false; have:=HTL.out; omega) kb3.size
     have k3:=kb3.grown g3 kb3.size (λk e=>(World.ownsRow.lt ib3 k e).1)
     obtain⟨vad3,vn3,vc3,hv3⟩:=one_slice i3;subst hv3;have E3:=hid e3;have I3:=hid i3;have K3:=hid k3;clear ib3 kb3 e3 i3 g3 k3
     go_upto_region 7 with fail
     refine wp_region_lit ?_;iterate 3 (refine wW λK hK=>?_;go_simp;apply hK;clear hK K)
     refine wpList_append_known rfl (.tmp 24) (.tmp 26) 38 38 38 rfl rfl (.slice vad vn vc) (.slice (some ⟨wr.heap.size,0,none⟩) 1 1) rfl rfl E3.out ?_
     simp only [Act.put,sA,sB,sC];refine wW λK hK=>?_;go_simp;apply hK;clear hK K;clear c0;have c0:=(K3.out.cell (p:=⟨g,o + i,none⟩) HGS.out (Nat.ne_of_lt HGS.out)).trans HCE.out;have ib4:=I3.out.alloc (.cells #[.int .i64 y] 3)
     have kb4:=K3.out.alloc K3.out.size (.cells #[.int .i64 y] 3)
     obtain⟨v4,w4,e4,i4,g4⟩:=append_intR _ _ _ _ y ib4 w3.heap.size 1 (one_cellT (heap_new w3 (.cells #[.int .i64 y] 3))) (by rw [List.length_append]; have:=putOut_len (l.take i) x false; have:=HTL.out; simp only [List.length_singleton]; omega) kb4.size
     have k4:=kb4.grown g4 kb4.size (λk e=>(World.ownsRow.lt ib4 k e).1)
     rw [HNW.out] at i4;obtain⟨vad4,vn4,vc4,hv4⟩:=one_slice i4;subst hv4;have E4:=hid e4;have I4:=hid i4;have K4:=hid k4;clear ib4 kb4 e4 i4 g4 k4
     go_upto_region 9 with fail
     refine wp_region_lit ?_;iterate 6 (refine wW λK hK=>?_;go_simp;apply hK;clear hK K)
     refine wpList_append_known rfl (.tmp 28) (.tmp 33) 38 38 38 rfl rfl (.slice vad3 vn3 vc3) (.slice (some ⟨w3.heap.size,0,none⟩) 1 1) rfl rfl E4.out ?_
     simp only [Act.put,sA,sB,sC];refine wW λK hK=>?_;go_simp;apply hK;clear hK K;clear c0;go_wp2
     go_roundw
     case rel=>exact⟨i + 1,true,_,rfl,rfl,by simp,hid HLT.out,HDX,K4,I4⟩
     case measure=>have:=HLT.out; simp [RowKit.intOf]; omega
    ·have HNX:=hid (show putOut (l.take i) x false ++ [y] = putOut (l.take (i + 1)) x false by unfold putOut; rw [if_neg (by decide),if_neg (by decide),HTK.out])
     have HDX:=hid (show false = (l.take (i + 1)).any (λy=>decide (x < y)) by rw [HTK.out,List.any_append,List.any_cons,decide_eq_false hxy,Bool.false_or,List.any_nil,Bool.or_false]; exact HD.out)
     go_upto_region 6 with fail
     refine wp_region_lit ?_;iterate 10 (refine wW λK hK=>?_;go_simp;apply hK;clear hK K)
     have ib3:=HI.out.alloc (.cells #[.int .i64 y] 3)
     have kb3:=HK.out.alloc HK.out.size (.cells #[.int .i64 y] 3)
     obtain⟨v3,w3,e3,i3,g3⟩:=append_intR _ _ _ _ y ib3 wr.heap.size 1 (one_cellT (heap_new wr (.cells #[.int .i64 y] 3))) (by have:=putOut_len (l.take i) x false; have:=HTL.out; omega) kb3.size
     have k3:=kb3.grown g3 kb3.size (λk e=>(World.ownsRow.lt ib3 k e).1)
     rw [HNX.out] at i3;obtain⟨vad3,vn3,vc3,hv3⟩:=one_slice i3;subst hv3;have E3:=hid e3;have I3:=hid i3;have K3:=hid k3;clear ib3 kb3 e3 i3 g3 k3
     go_upto_region 9 with fail
     refine wp_region_lit ?_;iterate 6 (refine wW λK hK=>?_;go_simp;apply hK;clear hK K)
     refine wpList_append_known rfl (.tmp 28) (.tmp 33) 38 38 38 rfl rfl (.slice vad vn vc) (.slice (some ⟨wr.heap.size,0,none⟩) 1 1) rfl rfl E3.out ?_
     simp only [Act.put,sA,sB,sC];refine wW λK hK=>?_;go_simp;apply hK;clear hK K;clear c0;go_wp2
     go_roundw
     case rel=>exact⟨i + 1,false,_,rfl,rfl,by simp,hid HLT.out,HDX,K3,I3⟩
     case measure=>have:=HLT.out; simp [RowKit.intOf]; omega
  ·have hnl:¬ (i:Int) < (ln:Int):=by omega
   have HE:=hid (show l.take i = l by have:=hi.out; rw [show i = l.length by rw [<- HLN.out]; omega]; exact List.take_length)
   have HTL:=hid (show l.length<=1000 by have:=HLN.out; omega)
   clear hlt hi;rw [HE.out] at HD HI
   cases dn with
   | true=>
    go_upto_region 10 with fail
    refine wp_region_lit ?_;iterate 2 (refine wW λK hK=>?_;go_simp;apply hK;clear hK K)
    go_wp2;go_ret;refine⟨_,rfl,?_,HK.out⟩;exact HI.out
   | false=>
    have HNX:=hid (show putOut l x false ++ [x] = Tt.put l x by
     unfold putOut;have:=put_over l [] x HD.out.symm;rw [List.append_nil] at this;rw [if_neg (by decide),this]
     rfl)
    go_upto_region 10 with fail
    refine wp_region_lit ?_;iterate 2 (refine wW λK hK=>?_;go_simp;apply hK;clear hK K)
    have ib3:=HI.out.alloc (.cells #[.int .i64 x] 3)
    have kb3:=HK.out.alloc HK.out.size (.cells #[.int .i64 x] 3)
    obtain⟨v3,w3,e3,i3,g3⟩:=append_intR _ _ _ _ x ib3 wr.heap.size 1 (one_cellT (heap_new wr (.cells #[.int .i64 x] 3))) (by have:=putOut_len l x false; have:=HTL.out; omega) kb3.size
    have k3:=kb3.grown g3 kb3.size (λk e=>(World.ownsRow.lt ib3 k e).1)
    rw [HNX.out] at i3;obtain⟨vad3,vn3,vc3,hv3⟩:=one_slice i3;subst hv3;have E3:=hid e3;have I3:=hid i3;have K3:=hid k3;clear ib3 kb3 e3 i3 g3 k3
    go_upto_region 11 with fail
    refine wp_region_lit ?_;iterate 3 (refine wW λK hK=>?_;go_simp;apply hK;clear hK K)
    refine wpList_append_known rfl (.tmp 37) (.tmp 39) 38 38 38 rfl rfl (.slice vad vn vc) (.slice (some ⟨wr.heap.size,0,none⟩) 1 1) rfl rfl E3.out ?_
    simp only [Act.put,sA,sB,sC];refine wW λK hK=>?_;go_simp;apply hK;clear hK K;go_wp2;go_ret;exact⟨_,rfl,I3.out,K3.out⟩
section
variable {w:World} {base:Nat} {T:TypeId} {g n cap:Nat} {xs:List Value}
theorem owns_whole (h:w.ownsRow base T 1 (.slice (some ⟨g,0,none⟩) n cap) n xs):∃ cur:List Value,cur.length = cap/\n<=cap/\cap<=maxLen/\base<=g/\w.heap[g]? = some (.cells cur.toArray T (0,0))/\cur.take n = xs/\w.ownsRow base T 1 (.slice (some ⟨g,0,none⟩) cap cap) cap cur:=by
 rcases h.2 with ⟨h',_⟩ | ⟨g',cap',cur,h',hb,hg,hn,hm,hs,ht⟩
 ·simp at h'
 ·simp only [Value.slice.injEq,Option.some.injEq,Addr.mk.injEq,and_true,true_and] at h'
  obtain⟨rfl,rfl⟩:=h';rw [Nat.mul_one] at hs ht;have hl:cur.toList.length = cap:=by rw [Array.length_toList]; exact hs
  refine⟨cur.toList,hl,hn,hm,hb,by rw [Array.toArray_toList]; exact hg,ht,⟨by rw [hl,Nat.mul_one],.inr ⟨g,cap,cur,rfl,hb,hg,Nat.le_refl _,hm,by rw [Nat.mul_one]; exact hs,by rw [Nat.mul_one]; exact List.take_of_length_le (Nat.le_of_eq hl)⟩⟩⟩
theorem owns_begin {cur:List Value}(h:w.ownsRow base T 1 (.slice (some ⟨g,0,none⟩) cap cap) cap cur)(m:Nat)(hm:m<=cap):w.ownsRow base T 1 (.slice (some ⟨g,0,none⟩) m cap) m (cur.take m):=by
 have hl:=h.1;rw [Nat.mul_one] at hl;refine⟨by rw [List.length_take,hl,Nat.mul_one]; omega,?_⟩
 rcases h.2 with ⟨h',_⟩ | ⟨g',cap',c,h',hb,hg,hn,hx,hs,ht⟩
 ·simp at h'
 ·simp only [Value.slice.injEq,Option.some.injEq,Addr.mk.injEq,and_true,true_and] at h'
  obtain⟨rfl,rfl⟩:=h';rw [Nat.mul_one] at hs ht;refine .inr ⟨g,cap,c,rfl,hb,hg,hm,hx,by rw [Nat.mul_one]; exact hs,?_⟩
  rw [Nat.mul_one,<- ht,List.take_take,Nat.min_eq_left hm]
end
theorem put_mid (cur:List Value)(k n:Nat)(x:Value)(cs:List Value)(hk:k<=n)(hn:n + 1<=cur.length)(hcl:cs.length = n)(ht:cur.take k = cs.take k):
  (putList (putList cur (k + 1) (cs.drop k)) k [x]).take (n + 1) = cs.take k ++ x :: cs.drop k:=by
 have hdl:(cs.drop k).length = n - k:=by rw [List.length_drop,hcl]
 apply List.ext_getElem?;intro j;rw [List.getElem?_take]
 by_cases hj:j < n + 1
 ·rw [if_pos hj,putList_at _ _ _ _ (by rw [putList_length,List.length_singleton]; omega),List.length_singleton]
  by_cases h1:j < k
  ·rw [if_neg (by omega),putList_at _ _ _ _ (by rw [hdl]; omega),if_neg (by omega),List.getElem?_append_left (by rw [List.length_take]; omega),<- ht,List.getElem?_take,if_pos h1]
  ·by_cases h2:j = k
   ·subst h2
    rw [if_pos (by omega),List.getElem?_append_right (by rw [List.length_take]; omega),List.length_take,show j - min j cs.length = 0 by omega,Nat.sub_self]
    rfl
   ·rw [if_neg (by omega),putList_at _ _ _ _ (by rw [hdl]; omega),if_pos (by rw [hdl]; omega),List.getElem?_append_right (by rw [List.length_take]; omega),List.length_take,show j - min k cs.length = (j - (k + 1)) + 1 by omega,List.getElem?_cons_succ]
 ·rw [if_neg hj,List.getElem?_eq_none (by simp only [List.length_append,List.length_cons,List.length_take,hdl]; omega)]
theorem put_mid2 (cur:List Value)(k n:Nat)(x:Value)(cs:List Value)(hk:k<=n)(hn:n + 1<=cur.length)(hcl:cs.length = n)(ht:cur.take k = cs.take k):
  (putList (putList cur k [x]) (k + 1) (cs.drop k)).take (n + 1) = cs.take k ++ x :: cs.drop k:=by
 rw [<- put_mid cur k n x cs hk hn hcl ht]
 congr 1
 have hdl:(cs.drop k).length = n - k:=by rw [List.length_drop,hcl]
 apply List.ext_getElem?;intro j;rw [putList_at _ _ _ _ (by rw [putList_length,hdl]; omega),putList_at _ _ _ _ (by rw [List.length_singleton]; omega),putList_at _ _ _ _ (by rw [putList_length,List.length_singleton]; omega),putList_at _ _ _ _ (by rw [hdl]; omega),hdl,List.length_singleton]
 by_cases h1:j = k
 ·rw [if_neg (by omega),if_pos (by omega),if_pos (by omega)]
 ·rw [if_neg (c:=k<=j/\j < k + 1) (by omega),if_neg (c:=k<=j/\j < k + 1) (by omega)]
theorem drewGrew (w:World)(row:Option Nat):w.grownBy w.drew row:=⟨rfl,rfl,rfl,Nat.le_refl _,λ_ _ _=>rfl⟩
theorem grownBy_trans {w w1 w2:World}{row:Option Nat}(h:w.grownBy w1 row)(k:w1.grownBy w2 row):w.grownBy w2 row:=
 ⟨k.os.trans h.os,k.tape.trans h.tape,k.output.trans h.output,Nat.le_trans h.size k.size,λi hi hn=>(k.block i (Nat.lt_of_lt_of_le hi h.size) hn).trans (h.block i hi hn)⟩
theorem zeroInts (m:Nat):(Builtin.zeroCells (Value.int .i64 0).cells m).size = m:=by simp [Builtin.zeroCells,Value.cells]
theorem frozen_none {w:World}{b k:Nat}{cs:Array Value}{t:TypeId}(h:w.heap[b]? = some (.cells cs t (0,0))):w.frozen? ⟨b,k,none⟩ = false:=by simp [World.frozen?,h]
theorem insert_calls (w:World)(v:Value)(l:List Int)(k:Nat)(x:Int)(vb:Nat)(hv:w.ownsRow 0 3 1 v l.length (l.map (Value.int .i64)))(hk:k<=l.length)(hx:w.heap[vb]? = some (.cells #[.int .i64 x] 3 (0,0)))(hne:v.ownBlock≠some vb)(hl:l.length<=1000):
  Calls Tryz.prog 134 #[v,.int .i64 (k:Int),.slice (some ⟨vb,0,none⟩) 1 1] w λe w'=>∃ v',e = .returned v'/\w'.ownsRow 0 3 1 v' (l.length + 1) ((l.take k ++ x :: l.drop k).map (Value.int .i64))/\w.grownBy w' v.ownBlock/\(v'.ownBlock = v.ownBlock\/v'.ownBlock = some w.heap.size):=by
 obtain⟨cs,hcs⟩:∃ cs,cs = l.map (Value.int .i64):=⟨_,rfl⟩;obtain⟨n,hn⟩:∃ n,n = l.length:=⟨_,rfl⟩;have hcl:cs.length = n:=by rw [hcs,List.length_map,hn]
 have h1c:∀ v∈cs,v.oneCell' = true:=λv hv=>by
  rw [hcs] at hv;obtain⟨y,_,rfl⟩:=List.mem_map.1 hv
  rfl
 have h1v:∀ v∈[Value.int .i64 x],v.oneCell' = true:=λv hv=>by rw [List.mem_singleton.1 hv]; rfl
 have hvs:∀ (j:Nat) (v:Value),[Value.int .i64 x][j]? = some v->w.cell? ⟨vb,0 + j,none⟩ = some v:=λj v hj=>by
  match j,hj with
  | 0,hj=>cases hj; simp [World.cell?,hx]
 have hres:(l.take k ++ x :: l.drop k).map (Value.int .i64) = cs.take k ++ Value.int .i64 x :: cs.drop k:=by rw [hcs,List.map_append,List.map_cons,List.map_take,List.map_drop]
 rw [<- hcs,<- hn] at hv;rw [<- hn] at hk hl;rw [hres,<- hn];have hbig:(n + 1) * 8<=140737488355328:=by omega
 have hmx:n + 1<=maxLen:=by unfold maxLen; omega
 clear hcs hres hn
 rcases hv.2 with ⟨rfl,hn0⟩ | ⟨g,cap,cur0,rfl,_,hgx,_,_,_,_⟩
 ·-- no number yet
  subst hn0;obtain rfl:k = 0:=by omega
  obtain rfl:cs = []:=List.length_eq_zero_iff.1 hcl;refine(Tryz.slices_Insert_int_end_grow none 0 0 vb 0 1 1 [] [.int .i64 x] w (by omega) (by omega) (by omega) (by omega) rfl rfl (λ_=>rfl) (λa h=>nomatch h) hvs h1v).mono ?_
  rintro e w' ⟨rfl,rfl⟩;refine⟨_,rfl,⟨rfl,.inr ⟨w.heap.size,_,_,rfl,Nat.zero_le _,heap_new w.drew _,grownCap_ge _ _ _ _,grownCap_le_maxLen _ _ _ _ hmx,?_,?_⟩⟩,grownBy_trans (drewGrew w _) (World.grownBy_alloc _ _ _),.inr rfl⟩
  ·have:=grownCap_ge w (0 + 1) 0 3
   simp only [Array.size_append,zeroInts,List.size_toArray,List.length_append,List.length_nil,List.length_singleton]
   omega
  ·simp
 ·obtain⟨cur,hcu,hnc,hcm,_,hg,htk,hwh⟩:=owns_whole hv
  have hvg:vb≠g:=λe=>hne (by rw [e]; rfl)
  have hcc:∀ (j:Nat) (v:Value),cs[j]? = some v->w.cell? ⟨g,0 + j,none⟩ = some v:=λj v hj=>by
   have:=World.ownsRow.cells (g:=g) hv rfl j v hj
   rwa [Addr.add_lit] at this
  have hgl:g < w.heap.size:=lt_of_block hg
  by_cases hroom:n + 1<=cap
  ·have hsp:∀ j,j < cap->(w.cell? ⟨g,0 + j,none⟩).isSome = true:=λj hj=>by
    simp [World.cell?,hg,hcu,hj]
   by_cases hkn:k < n
   ·refine(Tryz.slices_Insert_int_shift g 0 n cap k vb 0 1 1 cs [.int .i64 x] w hkn (by omega) hroom (by unfold maxLen at hcm; omega) hvg hcl rfl hcc (λj hj=>hsp j (by omega)) (λj _=>frozen_none hg) hvs h1c h1v _ _ _ _ (by simp [World.shape?,hx]; exact⟨rfl,rfl⟩) (by simp [World.shape?,hg]; exact⟨rfl,rfl⟩) (by omega) (frozen_none hx) (frozen_none hx)).mono ?_
    rintro e w' ⟨rfl,rfl⟩;rw [Nat.zero_add,Nat.zero_add];have hwd:=World.ownsRow.kept hwh (drewGrew w none) (.inr (by simp [Value.ownBlock]))
    obtain⟨a1,a2⟩:=owns_setCells (cs.drop k) (k + 1) _ _ hwd;obtain⟨b1,b2⟩:=owns_setCells [Value.int .i64 x] k _ _ a1;have c1:=owns_begin b1 (n + 1) hroom;rw [put_mid cur k n _ cs (by omega) (by omega) hcl (by rw [<- htk,List.take_take,Nat.min_eq_left (by omega)])] at c1
    exact⟨_,rfl,c1,grownBy_trans (drewGrew w _) (grownBy_trans a2 b2),.inl rfl⟩
   ·obtain rfl:k = n:=by omega
    refine(Tryz.slices_Insert_int_end_room g 0 k cap vb 0 1 1 [.int .i64 x] w (by omega) hroom (by unfold maxLen at hcm; omega) rfl (λj hj=>by rw [Nat.zero_add,<- Nat.zero_add (k + j)]; exact hsp _ (by omega)) (λj _=>frozen_none hg) hvs h1v).mono ?_
    rintro e w' ⟨rfl,rfl⟩;rw [Nat.zero_add];obtain⟨b1,b2⟩:=owns_setCells [Value.int .i64 x] k _ _ hwh;have c1:=owns_begin b1 (k + 1) hroom;have hpm:=put_mid cur k k (.int .i64 x) cs (by omega) (by omega) hcl (by rw [<- htk,List.take_take,Nat.min_self])
    rw [List.drop_of_length_le (by omega),putList] at hpm
    rw [hpm] at c1;rw [List.drop_of_length_le (by omega)]
    exact⟨_,rfl,c1,b2,.inl rfl⟩
  ·by_cases hkn:k < n
   ·refine(Tryz.slices_Insert_int_grow g 0 n cap k vb 0 1 1 cs [.int .i64 x] w hkn (by omega) hnc (by omega) hbig hcl rfl hcc hvs h1c h1v).mono ?_
    rintro e w' ⟨rfl,rfl⟩;obtain⟨G,hG⟩:∃ G,G = grownCap w (n + 1) cap 3:=⟨_,rfl⟩
    have hG1:n + 1<=G:=by rw [hG]; exact grownCap_ge _ _ _ _
    have hG2:G<=maxLen:=by rw [hG]; exact grownCap_le_maxLen _ _ _ _ hmx
    rw [<- hG];obtain⟨ROW,hROW⟩:∃ ROW:Array Value,ROW = (cs.take k).toArray ++ Builtin.zeroCells (Value.int .i64 0).cells (n + 1 - k) ++ Builtin.zeroCells (Value.int .i64 0).cells (G - (n + 1)):=⟨_,rfl⟩
    have hRs:ROW.size = G * 1:=by
     rw [hROW];simp only [Array.size_append,zeroInts,List.size_toArray,List.length_take]
     omega
    have hRt:ROW.toList.take k = cs.take k:=by
     rw [hROW,Array.append_assoc,Array.toList_append,List.take_append_of_le_length (by rw [List.length_take]; omega)]
     simp [List.take_take]
    rw [<- hROW];have a0:=World.ownsRow_lit (base:=0) (e:=3) w ROW G (Nat.zero_le _) hG2 hRs
    have a1:=World.ownsRow.kept a0 (drewGrew _ none) (.inr (by simp [Value.ownBlock]))
    obtain⟨b1,b2⟩:=owns_setCells [Value.int .i64 x] k _ _ a1;have c1:=World.ownsRow.kept b1 (drewGrew _ none) (.inr (by simp [Value.ownBlock]))
    obtain⟨d1,d2⟩:=owns_setCells (cs.drop k) (k + 1) _ _ c1;have e1:=owns_begin d1 (n + 1) hG1;rw [put_mid2 ROW.toList k n _ cs (by omega) (by rw [Array.length_toList,hRs]; omega) hcl hRt] at e1
    refine⟨_,rfl,e1,?_,.inr rfl⟩;have g0:=grownBy_trans (World.grownBy_alloc w (.cells ROW 3) (some w.heap.size)) (grownBy_trans (drewGrew _ _) (grownBy_trans b2 (grownBy_trans (drewGrew _ _) d2)))
    exact⟨g0.os,g0.tape,g0.output,g0.size,λi hi _=>g0.block i hi (λe=>by have:=Option.some.inj e; omega)⟩
   ·obtain rfl:k = n:=by omega
    refine(Tryz.slices_Insert_int_end_grow (some ⟨g,0,none⟩) k cap vb 0 1 1 cs [.int .i64 x] w (by omega) hnc (by omega) hbig hcl rfl (λh=>nomatch h) (λa h j v hj=>by
     cases h
     rw [Addr.add_lit]
     exact hcc j v hj) hvs h1v).mono ?_
    rintro e w' ⟨rfl,rfl⟩;rw [List.drop_of_length_le (by omega),List.take_of_length_le (by omega)]
    refine⟨_,rfl,⟨by rw [List.length_append,hcl,Nat.mul_one]; rfl,.inr ⟨w.heap.size,_,_,rfl,Nat.zero_le _,heap_new w.drew _,grownCap_ge _ _ _ _,grownCap_le_maxLen _ _ _ _ hmx,?_,?_⟩⟩,grownBy_trans (drewGrew w _) (World.grownBy_alloc _ _ _),.inr rfl⟩
    ·have:=grownCap_ge w (k + 1) cap 3
     simp only [Array.size_append,zeroInts,List.size_toArray,List.length_append,List.length_singleton,hcl]
     omega
    ·rw [Array.toList_append,List.take_append_of_le_length (by rw [List.length_append,hcl,Nat.mul_one]; exact Nat.le_refl _)]
     exact List.take_of_length_le (by rw [List.length_append,hcl,Nat.mul_one]; exact Nat.le_refl _)
theorem count_put:∀ (l:List Int) (x:Int),l.Pairwise (·<=·)->l.take (l.countP (· < x)) ++ x :: l.drop (l.countP (· < x)) = Tt.put l x
 | [],_,_=>rfl
 | y :: t,x,h=>by
  rw [List.pairwise_cons] at h;have ih:=count_put t x h.2
  have hz:¬ y < x->t.countP (· < x) = 0:=λhy=>List.countP_eq_zero.2 (λz hz=>by
   have:=h.1 z hz;simp only [decide_eq_true_eq]
   omega)
  rw [List.countP_cons,Tt.put]
  by_cases h1:y < x
  ·rw [if_pos (decide_eq_true h1),if_neg (by omega),List.take_succ_cons,List.drop_succ_cons,List.cons_append,ih]
  ·have h0:=hz h1
   rw [h0,List.take_zero,List.drop_zero,List.nil_append] at ih;rw [if_neg (by simpa using h1),h0,Nat.add_zero,List.take_zero,List.drop_zero,List.nil_append]
   by_cases h2:x < y
   ·rw [if_pos h2]
   ·rw [if_neg h2,<- ih,show y = x by omega]
theorem put_length:∀ (l:List Int) (x:Int),(Tt.put l x).length = l.length + 1
 | [],_=>rfl
 | y :: t,x=>by
  rw [Tt.put]
  split
  ·rfl
  ·rw [List.length_cons,put_length t x,List.length_cons]
theorem put_mem:∀ (l:List Int) (x z:Int),z∈Tt.put l x->z = x\/z∈l
 | [],_,_,h=>.inl (List.mem_singleton.1 h)
 | y :: t,x,z,h=>by
  rw [Tt.put] at h
  split at h
  ·rcases List.mem_cons.1 h with h | h
   ·exact .inl h
   ·exact .inr h
  ·rcases List.mem_cons.1 h with h | h
   ·exact .inr (h ▸ List.mem_cons_self)
   ·rcases put_mem t x z h with h | h
    ·exact .inl h
    ·exact .inr (List.mem_cons_of_mem _ h)
theorem put_rises:∀ (l:List Int) (x:Int),l.Pairwise (·<=·)->(Tt.put l x).Pairwise (·<=·)
 | [],_,_=>List.pairwise_singleton _ _
 | y :: t,x,h=>by
  have h0:=List.pairwise_cons.1 h;rw [Tt.put]
  split
  ·rename_i hx
   refine List.pairwise_cons.2 ⟨λz hz=>?_,h⟩
   rcases List.mem_cons.1 hz with e | e
   ·omega
   ·have:=h0.1 z e; omega
  ·refine List.pairwise_cons.2 ⟨λz hz=>?_,put_rises t x h0.2⟩
   rcases put_mem t x z hz with e | e
   ·omega
   ·exact h0.1 z e
theorem bsearch_calls (w:World)(v:Value)(l:List Int)(x:Int)(hv:Ints w 0 v l)(hs:l.Pairwise (·<=·))(hl:l.length<=1000):
  Calls Tryz.prog 133 #[v,.int .i64 x] w λe w'=>∃ b,e = .returned (.tuple #[.int .i64 ((l.countP (· < x):Nat):Int),.bool b])/\Kept w.heap.size w.heap.size w w':=by
 have hk:∀ q,Kept w.heap.size w.heap.size w (w.drewN q):=λq=>⟨rfl,rfl,rfl,Nat.le_refl _,λ_ _ _=>rfl⟩
 have h0:=hv
 rcases hv.2 with ⟨rfl,hn⟩ | ⟨g,cap,cur,rfl,_,_,_⟩
 ·obtain rfl:=List.length_eq_zero_iff.1 hn
  refine(Tryz.slices_BinarySearch_int_empty none 0 x w).mono ?_;rintro e w' ⟨rfl,rfl⟩;exact⟨_,rfl,Kept.refl _ _ _⟩
 ·refine(Tryz.slices_BinarySearch_int g 0 l.length cap l x w (Nat.le_refl _) (by omega) (λj hj=>?_) (by rw [List.take_length]; exact hs)).mono ?_
  ·have h2:=World.ownsRow.cells (g:=g) h0 rfl j (.int .i64 l[j]) (by rw [List.getElem?_map,List.getElem?_eq_getElem hj]; rfl)
   rw [Addr.add_lit] at h2;rw [h2,List.getD_eq_getElem?_getD,List.getElem?_eq_getElem hj]
   rfl
  ·rintro e w' ⟨rfl,q,rfl⟩
   rw [List.take_length];exact⟨_,rfl,hk q⟩
section
variable {B:Nat->Prop} {w w1:World} {lv:Value} {g n cap:Nat} {L:List Lf} {P:List Pr} {SL:List Value}
theorem Mine.loose (h:Mine B w lv (.slice (some ⟨g,0,none⟩) n cap) L P SL)(i:Nat)(hi:i < P.length)(hq:i < SL.length)(s:Value)(l:List Int)(gr:w.grownBy w1 SL[i].ownBlock)(hs:Ints w1 0 s l)(ho:s.ownBlock = SL[i].ownBlock\/∀ k,s.ownBlock = some k->w.heap.size<=k):
  Mine B (w1.setCell ⟨g,i * 66 + 65,none⟩ s) lv (.slice (some ⟨g,0,none⟩) n cap) L (P.set i { P[i] with loose:=l }) (SL.set i s)/\w1.grownBy (w1.setCell ⟨g,i * 66 + 65,none⟩ s) (some g):=by
 obtain⟨sad,sn,sc,rfl⟩:=one_slice hs;obtain⟨p,hp⟩:∃ p,p = P[i]:=⟨_,rfl⟩;obtain⟨t0,ht0⟩:∃ t0,t0 = SL[i]:=⟨_,rfl⟩;rw [<- ht0] at gr ho;have ht0m:SL[i]? = some t0:=by rw [ht0]; exact List.getElem?_eq_getElem hq
 have ht0i:t0∈SL:=List.mem_of_getElem? ht0m;have hpok:p.Ok:=by rw [hp]; exact h.pok _ (List.getElem_mem hi)
 have hzl:=zip_len h;have gs:=grown_set w1 g (i * 66 + 65) (.slice sad sn sc);have hgw:g < w.heap.size:=(h.po.2.lt g rfl).2
 have hsw:∀ k,(Value.slice sad sn sc).ownBlock = some k->w.heap.size<=k\/(t0.ownBlock = some k/\k < w.heap.size):=λk hk=>by
  rcases ho with e | e
  ·rw [e] at hk
   have hk2:=World.ownsRow.lt (h.so i p t0 (by rw [hp]; exact List.getElem?_eq_getElem hi) ht0m) k hk
   exact .inr ⟨hk,hk2.2⟩
  ·exact .inl (e k hk)
 have hdif:∀ a:Option Nat,(∀ k,a = some k->k < w.heap.size)->Dif a t0.ownBlock->Dif a (Value.slice sad sn sc).ownBlock:=λa ha hd=>by
  cases a with
  | none=>exact .inl rfl
  | some a=>
   refine .inr λe=>?_
   rcases hsw a e.symm with e2 | ⟨e2,_⟩
   ·have:=ha a rfl; omega
   ·exact hd.elim (λe=>nomatch e) (λe3=>e3 e2.symm)
 have hgn:(Value.slice sad sn sc).ownBlock = none\/(Value.slice sad sn sc).ownBlock≠some g:=by
  refine .inr λe=>?_
  rcases hsw g e with e2 | ⟨e2,_⟩
  ·omega
  ·exact(h.dps t0 ht0i).elim (λe=>nomatch e) (λe3=>e3 e2.symm)
 have hne:∀ x:Value,Dif (some g) x.ownBlock->x.ownBlock = none\/x.ownBlock≠some g:=λx hx=>.inr λe=>hx.elim (λe2=>nomatch e2) (λe2=>e2 e.symm)
 have po1:=h.po.grown gr (h.dps t0 ht0i);rw [<- hzl] at hi;obtain⟨ad,g2,c2,hv2,hc2,_⟩:=po1.at;have hnn:n = (List.zipWith Pr.cells P SL).length:=by injection hv2
 subst hnn;obtain⟨q1,q2,_⟩:=OwnC.part po1 i hi 65 [.slice sad sn sc] (by simp) (λy hy=>by rw [List.mem_singleton.1 hy]; rfl)
 have hrow:putList (List.zipWith Pr.cells P SL)[i] 65 [.slice sad sn sc] = Pr.cells { p with loose:=l } (.slice sad sn sc):=by
  rw [List.getElem_zipWith,<- hp];exact pr_set hpok _ _
 rw [hrow,<- zip_set] at q1;rw [hzl] at hi;refine⟨?_,gs⟩
 have hlt:∀ (j:Nat) (t:Value),SL[j]? = some t->∀ k,t.ownBlock = some k->k < w.heap.size:=λj t ht k e=>by
  have hj:j < P.length:=by rw [<- h.len]; exact(List.getElem?_eq_some_iff.1 ht).1
  exact(World.ownsRow.lt (h.so j _ t (List.getElem?_eq_getElem hj) ht) k e).2
 rw [<- hp]
 exact { h with
  pok:=λx hx=>(List.mem_or_eq_of_mem_set hx).elim (h.pok x) (λe=>e ▸ hpok)
  lo:=(h.lo.grown gr (h.dls t0 ht0i)).grown gs (hne lv h.dlp.symm)
  len:=by rw [List.length_set,List.length_set,h.len]
  po:=q1
  so:=λj q t hqq ht=>by
   by_cases hj:i = j
   ·subst hj
    rw [List.getElem?_set_self hi] at hqq;rw [List.getElem?_set_self hq] at ht
    cases hqq
    cases ht
    exact World.ownsRow.kept hs gs hgn
   ·rw [List.getElem?_set_ne hj] at hqq ht
    exact World.ownsRow.kept (World.ownsRow.kept (h.so j q t hqq ht) gr (h.dss j i t t0 (λe=>hj e.symm) ht ht0m)) gs (hne t (h.dps t (List.mem_of_getElem? ht)))
  dls:=λt ht=>(List.mem_or_eq_of_mem_set ht).elim (h.dls t) (λe=>by rw [e]; exact hdif _ (λk hk=>(h.lo.2.lt k hk).2) (h.dls t0 ht0i))
  dps:=λt ht=>(List.mem_or_eq_of_mem_set ht).elim (h.dps t) (λe=>by rw [e]; exact hdif _ (λk hk=>(h.po.2.lt k hk).2) (h.dps t0 ht0i))
  dss:=λa b x y hab hx hy=>by
   by_cases ha:i = a
   ·subst ha
    rw [List.getElem?_set_self hq] at hx;rw [List.getElem?_set_ne hab] at hy
    cases hx
    exact(hdif _ (hlt b y hy) (h.dss b i y t0 (λe=>hab e.symm) hy ht0m)).symm
   ·rw [List.getElem?_set_ne ha] at hx
    by_cases hb2:i = b
    ·subst hb2
     rw [List.getElem?_set_self hq] at hy
     cases hy
     exact hdif _ (hlt a x hx) (h.dss a i x t0 hab hx ht0m)
    ·rw [List.getElem?_set_ne hb2] at hy
     exact h.dss a b x y hab hx hy
  os:=λt ht=>(List.mem_or_eq_of_mem_set ht).elim (h.os t) (λe k hk b=>by
   rw [e] at hk
   rcases hsw k hk with e2 | ⟨e2,_⟩
   ·have:=h.bnd k b; omega
   ·exact h.os t0 ht0i k e2 b)
  bnd:=λk hk=>Nat.lt_of_lt_of_le (h.bnd k hk) (Nat.le_trans gr.size gs.size) }
end
theorem loosen_any (place:Nat):LoosenK place (λj p=>66<=j\/(p.loose.Pairwise (·<=·)/\p.loose.length<=64 + j)):=by
 intro j hj66 B w lv g n cap L P SL h i hi hs;have hq:i < SL.length:=by rw [h.len]; exact hi
 have hzl:=zip_len h;obtain⟨hsort,hlen⟩:P[i].loose.Pairwise (·<=·)/\P[i].loose.length<=64 + j:=(hs P[i] (List.getElem_mem hi)).resolve_left (by omega)
 have hint:=h.so i P[i] SL[i] (List.getElem?_eq_getElem hi) (List.getElem?_eq_getElem hq);have hpok:=h.pok P[i] (List.getElem_mem hi);obtain⟨ad,g2,c2,hv,h1,_⟩:=h.po.at;obtain⟨ha,_,hg,hr⟩:=h1 i (by rw [hzl]; exact hi)
 subst ha;injection hv with hv hva hvb
 clear hva hvb;injection hv with hv
 injection hv with hv hva hvb
 clear hva hvb;subst hv;rw [List.getElem_zipWith,Nat.zero_add] at hr;have hc:=hr 0 (.bool P[i].set) rfl;rw [Nat.add_zero] at hc;have hc65:=hr 65 SL[i] (by simp [Pr.cells,bcells_length,hpok.1,hpok.2])
 have hlse:∀ s':Value,Ints w 0 s' P[i].loose->s' = SL[i]->True:=λ_ _ _=>trivial
 clear hr h1 hlse;obtain⟨st,hst⟩:∃ st,st = P[i].set:=⟨_,rfl⟩;rw [<- hst] at hc
 cases st with
 | false=>
  have he:P.set i (Tt.loosened place P[i]) = P:=by
   rw [show Tt.loosened place P[i] = P[i] by unfold Tt.loosened; rw [<- hst]; rfl,List.set_getElem_self]
  have HM:=hid h;rw [he];generalize i * 66 = k at hc hc65 |-;clear h hs hzl he hg hi hq hsort hlen hint hpok hst hc65 hj66
  go_enter Tryz.func106,Tryz.ntmps106
  go_wp2;refine bodyPost_ret (results_none rfl _ _ _) rfl ?_;exact⟨rfl,Frm.refl _ _,SL,HM.out⟩
 | true=>
  have he:P.set i (Tt.loosened place P[i]) = P.set i { P[i] with loose:=Tt.put P[i].loose (place:Int) }:=by
   rw [show Tt.loosened place P[i] = { P[i] with loose:=Tt.put P[i].loose (place:Int) } by unfold Tt.loosened; rw [if_pos hst.symm]]
  rw [he];have HS:=hid (λ(s:Value) (l:List Int) (u u1:World) (m:Mine B u lv (.slice (some ⟨g,0,none⟩) n cap) L P SL) (gr:u.grownBy u1 SL[i].ownBlock) (hs:Ints u1 0 s l) (ho:s.ownBlock = SL[i].ownBlock\/∀ k,s.ownBlock = some k->u.heap.size<=k)=>Mine.loose m i hi hq s l gr hs ho)
  have HOS:=hid (λk (e:SL[i].ownBlock = some k)=>h.os SL[i] (List.getElem_mem hq) k e)
  have HOP:=hid (h.op g rfl);have HDP:=hid (h.dps SL[i] (List.getElem_mem hq));have HM:=hid h;have HI:=hid hint;have hpw:=h.po
  obtain⟨cur,hcur,hcsz⟩:∃ cur:List Value,w.heap[g]? = some (.cells cur.toArray 68 (0,0))/\i * 66 + 65 < cur.length:=by
   rcases hpw.2.2 with ⟨h',_⟩ | ⟨g',cap',c,h',_,hgx,hnc,_,hsz,_⟩
   ·simp at h'
   ·injection h' with hx1 hx2 hx3
    injection hx1 with hx1
    injection hx1 with hx1 _ _
    subst hx1;refine⟨c.toList,by rw [Array.toArray_toList]; exact hgx,?_⟩
    rw [Array.length_toList,hsz];rw [hzl] at hnc;have:=Nat.mul_le_mul_right 66 (Nat.le_trans hi hnc);rw [Nat.succ_mul] at this
    omega
  have HCU:=hid hcur;have HCS:=hid hcsz;obtain⟨l,hl⟩:∃ l,l = P[i].loose:=⟨_,rfl⟩;obtain⟨s,hsv⟩:∃ s,s = SL[i]:=⟨_,rfl⟩;rw [<- hl] at hsort hlen HI |-;rw [<- hsv] at hc65 HOS HDP HI HS;have HBS:=hid (λ(u:World) (k:Kept w.heap.size w.heap.size w u)=>bsearch_calls u s l (place:Int) (HI.out.kept k) hsort (by omega))
  have HPU:=hid (count_put l (place:Int) hsort);have HCL:=hid (List.countP_le_length (p:=λy:Int=>decide (y < (place:Int))) (l:=l))
  have HLN:=hid (show l.length<=1000 by omega)
  obtain⟨kc,hkc⟩:∃ kc,kc = l.countP (· < (place:Int)):=⟨_,rfl⟩
  rw [<- hkc] at HBS HPU HCL;obtain⟨P9,hP9⟩:∃ P9,P9 = P.set i { P[i] with loose:=Tt.put l (place:Int) }:=⟨_,rfl⟩
  rw [<- hP9];have HP9:=hid hP9;obtain⟨sad,sn,sc,rfl⟩:=one_slice HI.out;obtain⟨kk,hkk⟩:∃ kk,kk = i * 66:=⟨_,rfl⟩;rw [<- hkk] at hc hc65 HCS HS |-;have HGW:=hid hg;clear h hs hzl he hsort hlen hint hpok hst hj66 hpw hcur hcsz hl hsv hkc hP9 hkk hg;have C65:=hid hc65
  go_enter Tryz.func106,Tryz.ntmps106
  go_upto_region 1 with fail
  refine wp_region_lit ?_;iterate 5 (refine wW λK hK=>?_;go_simp;apply hK;clear hK K)
  refine wW λK hK=>?_;go_simp;go_at_call 133
  refine(HBS.out w (Kept.refl _ _ _)).mono ?_;rintro e w2 ⟨bb,rfl,k2⟩;have K2:=hid k2;clear k2;apply hK;clear hK K;iterate 5 (refine wW λK hK=>?_;go_simp;apply hK;clear hK K)
  clear hc hc65;have c65:=(K2.out.cell (p:=⟨g,kk + 65,none⟩) HGW.out (Nat.ne_of_lt HGW.out)).trans C65.out;have ka:=kA w2 (.cells #[.int .i64 (place:Int)] 3)
  have M3:=hid ((HM.out.kept K2.out).kept ka);have K3:=hid (K2.out.next1 ka);have i3:=(HI.out.kept K2.out).kept ka;have HCU3:=hid ((K3.out.block g (lt_of_block HCU.out) (Nat.ne_of_lt (lt_of_block HCU.out))).trans HCU.out);have HIN:=hid (insert_calls _ _ l kc (place:Int) w2.heap.size i3 HCL.out (heap_new w2 _) (λe=>by have:=(World.ownsRow.lt (HI.out.kept K2.out) _ e).2; omega) HLN.out)
  clear ka i3
  go_upto_region 2 with fail
  refine wp_region_lit ?_;iterate 8 (refine wW λK hK=>?_;go_simp;apply hK;clear hK K)
  clear c65;refine wW λK hK=>?_;go_simp;go_at_call 134
  refine(HIN.out).mono ?_;rintro e w4 ⟨v4,rfl,i4,g4,o4⟩;apply hK;clear hK K;rw [HPU.out] at i4
  have i4':Ints w4 0 v4 (Tt.put l (place:Int)):=by
   unfold Ints;rw [put_length];exact i4
  obtain⟨vad,vn,vc,rfl⟩:=one_slice i4';obtain⟨m5,g5⟩:=HS.out _ _ _ w4 M3.out g4 i4' (o4.imp (λe=>e) (λe k hk=>by rw [hk] at e; exact Nat.le_of_eq (Option.some.inj e).symm))
  rw [<- HP9.out] at m5;have hcu4:=(g4.block g (lt_of_block HCU3.out) (λe=>HDP.out.elim (λe2=>nomatch e2) (λe2=>e2 e))).trans HCU3.out
  have f4:=(K3.out.fr (B:=B)).trans (grown_fr (B:=B) g4 (λk e b=>HOS.out k e b))
  have f5:=f4.trans (grown_fr (B:=B) g5 (λk e b=>HOP.out (Option.some.inj e ▸ b)))
  have M5:=hid m5;have F5:=hid f5;have HCU4:=hid hcu4;clear i4 i4' m5 g5 g4 o4 hcu4 f4 f5 HIN;iterate 2 (refine wW λK hK=>?_;go_simp;apply hK;clear hK K)
  refine @wpL_store_part _ _ _ _ _ _ _ ?_ 38 _ _ rfl g (kk + 65) cur 68 (.slice vad vn vc) rfl rfl HCU4.out HCS.out rfl (by kernel_rfl) ?_;kernel_rfl
  simp only [Act.put];generalize w4.setCell ⟨g,kk + 65,none⟩ (.slice vad vn vc) = w5 at M5 F5 |-;go_wp2;refine bodyPost_end (results_none rfl _ _ _) rfl ?_;exact⟨rfl,F5.out,_,M5.out⟩
end Go.Proofs.YtinebhdilnndaaaGreatDoor
