/-
 TreePuts; TreeRefPut; TreeInsert; TreeLoosen: several texts in one.
-/
import Derived.Test.YtlpabcnhcbgfjaaTreeAdd
import Derived.Test.YtlpabcnhcbgfjaaHB
import Derived.Test.YtlpabcnhcbgfjaaHA
import Derived.Test.YtlpabcnhcbgfjaaFindI
import Derived.Laws.NewBlocks
set_option maxRecDepth 100000
set_option maxHeartbeats 6400000
namespace Go.Proofs.Ytlpabcnhcbgfjaa
open Go.RowKit Go.Lib
open List renaming setIfInBounds_toArray → sA, set_cons_zero → sB, set_cons_succ → sC
open BigFrame renaming wpList_want → wQ
def Bo.nodN:List Nat→Bool
 | []=>true
 | y :: D=>if Bo.memN D y then false else Bo.nodN D
def Bo.dn (n:Nat):Bool:=(List.range n).all fun a=>Bo.nodN ((Bo.ups n ((2 * a:Nat):Int)).map fun y=>y.toNat / 2)
theorem Bo.dn_all:((List.range 65).all Bo.dn) = true:=by decide +kernel
theorem Bo.dir_nodup {n a:Nat}(hn:n≤64)(ha:a < n):Bo.nodN ((Bo.Direct (n:Int) (a:Int)).map fun y=>y.toNat / 2) = true:=by
 rw [Bo.Direct,if_pos (Bo.leaf_of ha hn),show(2:Int) * (a:Int) = ((2 * a:Nat):Int) by omega]
 exact List.all_eq_true.1 (List.all_eq_true.1 Bo.dn_all n (List.mem_range.2 (by omega))) a (List.mem_range.2 ha)
namespace Tt
theorem loosen1_get (x:Nat)(P:List Pr)(y:Int)(j:Nat):(loosen1 x P y)[j]? = if y.toNat / 2 = j then P[j]?.map (loosened x) else P[j]?:=by
 unfold loosen1
 split
 ·rename_i p hp
  rw [List.getElem?_set]
  by_cases h:y.toNat / 2 = j
  ·rw [if_pos h,if_pos h,← h,hp,if_pos (List.getElem?_eq_some_iff.1 hp).1]
   rfl
  ·rw [if_neg h,if_neg h]
 ·rename_i hp
  by_cases h:y.toNat / 2 = j
  ·rw [if_pos h,← h,hp]
   rfl
  ·rw [if_neg h]
theorem loosens_get (x:Nat)(j:Nat):∀ (W:List Int) (P:List Pr),Bo.nodN (W.map fun y=>y.toNat / 2) = true→(loosens x W P)[j]? = if W.any (fun y=>y.toNat / 2 == j) = true then P[j]?.map (loosened x) else P[j]?
 | [],P,_=>by
  rw [List.any_nil,if_neg (by decide)]
  rfl
 | y :: W,P,h=>by
  rw [List.map_cons,Bo.nodN] at h
  split at h
  ·cases h
  ·rename_i hm
   show(loosens x W (loosen1 x P y))[j]? = _;rw [loosens_get x j W _ h,loosen1_get,List.any_cons]
   by_cases hj:y.toNat / 2 = j
   ·have ha:W.any (fun y=>y.toNat / 2 == j) = false:=by
     rw [Bo.memN_any,List.any_map,hj] at hm;exact Bool.eq_false_iff.2 hm
    rw [ha,if_neg (by decide),if_pos hj,show(y.toNat / 2 == j) = true by rw [beq_iff_eq]; exact hj,Bool.true_or,if_pos rfl]
   ·rw [if_neg hj,show(y.toNat / 2 == j) = false by rw [beq_eq_false_iff_ne]; exact hj,Bool.false_or]
def holdPut1 (n:Int)(x:Nat)(P:List Pr)(i:Nat):List Pr:=
 match P[i]? with
 | Option.some p=>if (p.set && Bo.Holds n ((2 * i + 1:Nat):Int) (x:Int)) = true then P.set i (loosened x p) else P
 | Option.none=>P
def holdPuts (n:Int)(x:Nat)(P:List Pr):Nat→List Pr
 | 0=>P
 | k + 1=>holdPut1 n x (holdPuts n x P k) k
theorem holdPut1_length (n:Int)(x:Nat)(P:List Pr)(i:Nat):(holdPut1 n x P i).length = P.length:=by
 unfold holdPut1
 split
 ·split
  ·rw [List.length_set]
  ·rfl
 ·rfl
theorem holdPuts_length (n:Int)(x:Nat)(P:List Pr):∀ k,(holdPuts n x P k).length = P.length
 | 0=>rfl
 | k + 1=>by rw [holdPuts,holdPut1_length,holdPuts_length n x P k]
theorem loosened_unset {p:Pr}(x:Nat)(h:p.set = false):loosened x p = p:=by
 unfold loosened;rw [if_neg (by rw [h]; decide)]
theorem holdPut1_get (n:Int)(x:Nat)(P:List Pr)(i j:Nat):(holdPut1 n x P i)[j]? = if i = j∧Bo.Holds n ((2 * i + 1:Nat):Int) (x:Int) = true then P[j]?.map (loosened x) else P[j]?:=by
 unfold holdPut1
 split
 ·rename_i p hp
  by_cases hs:p.set = true
  ·by_cases hh:Bo.Holds n ((2 * i + 1:Nat):Int) (x:Int) = true
   ·rw [if_pos (by rw [hs,hh]; rfl),List.getElem?_set]
    by_cases h:i = j
    ·have hc:i = j∧Bo.Holds n ((2 * i + 1:Nat):Int) (x:Int) = true:=⟨h,hh⟩
     rw [if_pos h,if_pos (List.getElem?_eq_some_iff.1 hp).1,if_pos hc,← h,hp]
     rfl
    ·rw [if_neg h,if_neg (fun e=>h e.1)]
   ·rw [if_neg (by rw [hs,Bool.true_and]; exact hh),if_neg (fun e=>hh e.2)]
  ·have hs2:p.set = false:=Bool.eq_false_iff.2 hs
   rw [if_neg (by rw [hs2,Bool.false_and]; decide)]
   by_cases h:i = j
   ·rw [← h,hp,Option.map_some,loosened_unset x hs2]
    split <;> rfl
   ·rw [if_neg (fun e=>h e.1)]
 ·rename_i hp
  by_cases h:i = j
  ·rw [← h,hp]
   split <;> rfl
  ·rw [if_neg (fun e=>h e.1)]
theorem holdPuts_get (n:Int)(x:Nat)(P:List Pr)(j:Nat):∀ k,(holdPuts n x P k)[j]? = if j < k∧Bo.Holds n ((2 * j + 1:Nat):Int) (x:Int) = true then P[j]?.map (loosened x) else P[j]?
 | 0=>by
  rw [if_neg (fun h=>Nat.not_lt_zero _ h.1)]
  rfl
 | k + 1=>by
  rw [holdPuts,holdPut1_get,holdPuts_get n x P j k]
  by_cases hkj:k = j
  ·subst hkj
   have h1:¬ (k < k∧Bo.Holds n ((2 * k + 1:Nat):Int) (x:Int) = true):=fun h=>Nat.lt_irrefl _ h.1
   rw [if_neg h1]
   by_cases hh:Bo.Holds n ((2 * k + 1:Nat):Int) (x:Int) = true
   ·have h2:k < k + 1∧Bo.Holds n ((2 * k + 1:Nat):Int) (x:Int) = true:=⟨Nat.lt_succ_self _,hh⟩
    rw [if_pos ⟨rfl,hh⟩,if_pos h2]
   ·rw [if_neg (fun h=>hh h.2),if_neg (fun h=>hh h.2)]
  ·rw [if_neg (fun h=>hkj h.1)]
   have h2:(j < k + 1) = (j < k):=by apply propext; omega
   simp only [h2]
theorem holdPuts_loosens {n k:Nat}{P:List Pr}(hn:n≤64)(hk:k < n)(hp:P.length = n - 1):holdPuts (n:Int) k P P.length = loosens k (Bo.Direct (n:Int) (k:Int)) P:=by
 refine List.ext_getElem? fun j=>?_
 rw [holdPuts_get,loosens_get k j _ P (Bo.dir_nodup hn hk)]
 by_cases hj:j < P.length
 ·rw [Bo.dir_holds hn hk (by omega)]
  by_cases h:Bo.Holds (n:Int) ((2 * j + 1:Nat):Int) (k:Int) = true
  ·rw [if_pos ⟨hj,h⟩,if_pos h]
  ·rw [if_neg (fun h2=>h h2.2),if_neg h]
 ·rw [List.getElem?_eq_none (by omega),if_neg (fun h=>hj h.1)]
  split <;> rfl
theorem tput_length:∀ (l:List Int) (x:Int),(put l x).length = l.length + 1
 | [],_=>rfl
 | y :: t,x=>by
  rw [put]
  split
  ·rfl
  ·rw [List.length_cons,tput_length t x,List.length_cons]
theorem loosened_loose (x:Nat)(p:Pr):(loosened x p).loose.length≤p.loose.length + 1:=by
 unfold loosened
 split
 ·rw [tput_length]; exact Nat.le_refl _
 ·exact Nat.le_succ _
theorem holdPuts_loose {n:Int}{x:Nat}{P:List Pr}{b:Nat}(h:∀ p∈P,p.loose.length≤b)(k:Nat):∀ p∈holdPuts n x P k,p.loose.length≤b + 1:=fun p hp=>by
 obtain⟨j,hj⟩:=List.getElem?_of_mem hp;rw [holdPuts_get] at hj
 split at hj
 ·obtain⟨q,hq,rfl⟩:=Option.map_eq_some_iff.1 hj
  exact Nat.le_trans (loosened_loose x q) (Nat.succ_le_succ (h q (List.mem_of_getElem? hq)))
 ·exact Nat.le_succ_of_le (h p (List.mem_of_getElem? hj))
theorem firstBlank_lt:∀ (L:List Lf) (i:Nat),i < firstBlank L→∃ l,L[i]? = some l∧l.name≠0
 | [],i,h=>absurd h (Nat.not_lt_zero _)
 | l :: L,i,h=>by
  rw [firstBlank] at h
  by_cases h0:(l.name == 0) = true
  ·rw [if_pos h0] at h
   exact absurd h (Nat.not_lt_zero _)
  ·rw [if_neg h0] at h
   match i,h with
   | 0,_=>exact⟨l,rfl,fun e=>h0 (by rw [e]; rfl)⟩
   | i + 1,h=>exact firstBlank_lt L i (by omega)
theorem firstBlank_is:∀ (L:List Lf),firstBlank L < L.length→∃ l,L[firstBlank L]? = some l∧l.name = 0
 | [],h=>absurd h (Nat.not_lt_zero _)
 | l :: L,h=>by
  rw [firstBlank] at h ⊢
  by_cases h0:(l.name == 0) = true
  ·rw [if_pos h0]
   exact⟨l,rfl,beq_iff_eq.1 h0⟩
  ·rw [if_neg h0] at h ⊢
   rw [List.getElem?_cons_succ];exact firstBlank_is L (by rw [List.length_cons] at h; omega)
end Tt
section
variable {B:Nat→Prop} {w:World} {lv:Value} {g n c:Nat} {L:List Lf} {P:List Pr} {SL:List Value}
theorem Mine.prow (h:Mine B w lv (.slice (some ⟨g,0,none⟩) n c) L P SL)(i:Nat)(hi:i < P.length):∃ cur:List Value,w.heap[g]? = some (.cells cur.toArray 62 (0,0))∧i * 66 + 65 < cur.length:=by
 have hzl:=zip_len h
 rcases h.po.2.2 with ⟨h',_⟩ | ⟨g',cap',cs,h',_,hgx,hnc,_,hsz,_⟩
 ·simp at h'
 ·injection h' with hx1 hx2 hx3
  injection hx1 with hx1
  injection hx1 with hx1 _ _
  subst hx1;refine⟨cs.toList,by rw [Array.toArray_toList]; exact hgx,?_⟩
  rw [Array.length_toList,hsz];rw [hzl] at hnc;have:=Nat.mul_le_mul_right 66 (Nat.le_trans hi hnc);rw [Nat.succ_mul] at this
  omega
end
theorem put_over:∀ (l r:List Int) (x:Int),l.any (fun y=>decide (x < y)) = false→Tt.put (l ++ r) x = l ++ Tt.put r x
 | [],_,_,_=>rfl
 | y :: l,r,x,h=>by
  rw [List.any_cons,Bool.or_eq_false_iff,decide_eq_false_iff_not] at h;rw [List.cons_append,Tt.put,if_neg h.1,put_over l r x h.2,List.cons_append]
theorem put_done:∀ (l r:List Int) (x:Int),l.any (fun y=>decide (x < y)) = true→Tt.put (l ++ r) x = Tt.put l x ++ r
 | [],_,_,h=>nomatch h
 | y :: l,r,x,h=>by
  rw [List.any_cons,Bool.or_eq_true,decide_eq_true_eq] at h;rw [List.cons_append,Tt.put,Tt.put]
  by_cases h1:x < y
  ·rw [if_pos h1,if_pos h1]
   rfl
  ·rw [if_neg h1,if_neg h1,put_done l r x (h.resolve_left h1),List.cons_append]
theorem put_len:∀ (l:List Int) (x:Int),(Tt.put l x).length = l.length + 1
 | [],_=>rfl
 | y :: t,x=>by
  rw [Tt.put]
  split
  ·rfl
  ·rw [List.length_cons,put_len t x,List.length_cons]
def putOut (l:List Int)(x:Int)(dn:Bool):List Int:=if dn then Tt.put l x else l
theorem putOut_len (l:List Int)(x:Int)(dn:Bool):(putOut l x dn).length≤l.length + 1:=by
 unfold putOut
 split
 ·rw [put_len]; exact Nat.le_refl _
 ·exact Nat.le_succ _
theorem refput_calls (v:Value)(l:List Int)(x:Int)(w:World)(hv:Nums w v l)(hl:l.length≤1000):
  Calls Try.prog 42 #[v,.int .i64 x] w fun e w'=>∃ v',e = .returned v'∧Ints w' w.heap.size v' (Tt.put l x)∧Kept w.heap.size w.heap.size w w':=by
 obtain⟨ad,c,g,o,rfl,hc⟩:=hv;obtain⟨ln,hln⟩:∃ ln,ln = l.length:=⟨_,rfl⟩;rw [← hln];have hln9:(ln:Int)≤1000:=by omega
 have HLN:=hid hln;have HC:=hid hc;clear hc hln hl
 go_enter Try.func42,Try.ntmps42
 have K1:=hid (Kept.refl w.heap.size w.heap.size w);have I1:=hid (show Ints w w.heap.size (.slice none 0 0) (putOut (l.take 0) x false) from World.ownsRow_nil _ _ _ _);go_wp2
 go_loopw [5,6,7] (fun s5 s6 s7 wr=>∃ i:Nat,∃ dn:Bool,∃ v,s5 = v∧s6 = .bool dn∧s7 = .int .i64 (i:Int)∧Hid (i≤ln)∧Hid (dn = (l.take i).any (fun y=>decide (x < y)))∧Hid (Kept w.heap.size w.heap.size w wr)∧Hid (Ints wr w.heap.size v (putOut (l.take i) x dn))) (fun _ _ s7 _=>ln - (RowKit.intOf s7).toNat)
 case atStart=>exact⟨0,false,_,rfl,rfl,rfl,hid (Nat.zero_le _),hid rfl,K1,I1⟩
 case round=>
  clear K1 I1;obtain⟨i,dn,v,rfl,rfl,rfl,hi,HD,HK,HI⟩:=hrel;obtain⟨vad,vn,vc,rfl⟩:=one_slice HI.out
  by_cases hlt:i < ln
  ·have hiL:i < l.length:=by rw [← HLN.out]; exact hlt
   have hlti:(i:Int) < (ln:Int):=by omega
   have hi0:¬ (i:Int) < 0:=by omega
   obtain⟨rfl,hg,hcell⟩:=HC.out i hiL;obtain⟨y,hy⟩:∃ y,y = l[i]:=⟨_,rfl⟩;rw [← hy] at hcell;have c0:=(HK.out.cell (p:=⟨g,o + i,none⟩) hg (Nat.ne_of_lt hg)).trans hcell;have HCE:=hid hcell;have HTK:=hid (show l.take (i + 1) = l.take i ++ [y] by rw [hy]; exact List.take_succ_eq_append_getElem hiL)
   have HTL:=hid (show(l.take i).length≤1000 by rw [List.length_take]; have:=HLN.out; omega)
   have HGS:=hid hg;have HLT:=hid hlt;clear hlt hi hiL hg hcell hy
   cases dn with
   | true=>
    have HNX:=hid (show putOut (l.take i) x true ++ [y] = putOut (l.take (i + 1)) x true by unfold putOut; rw [if_pos rfl,if_pos rfl,HTK.out,put_done _ _ _ HD.out.symm])
    have HDX:=hid (show true = (l.take (i + 1)).any (fun y=>decide (x < y)) by rw [HTK.out,List.any_append,← HD.out,Bool.true_or])
    go_upto_region 6 with fail
    refine wp_region_lit ?_;iterate 3 (refine @wQ _ _ _ _ _ _ _ ?_ ?_;kernel_rfl;intro K hK;go_simp;refine hK _ _ ?_;clear hK K)
    refine @wpList_skip _ _ _ _ _ _ _ ?_ ?_;kernel_rfl;simp only [Act.put,sA,sB,sC];refine @wpList_skip _ _ _ _ _ _ _ ?_ ?_;kernel_rfl;simp only [Act.put,sA,sB,sC];refine @wpList_skip _ _ _ _ _ _ _ ?_ ?_;kernel_rfl;simp only [Act.put,sA,sB,sC];refine @wpList_skip _ _ _ _ _ _ _ ?_ ?_;kernel_rfl;simp only [Act.put,sA,sB,sC];refine @wpList_skip _ _ _ _ _ _ _ ?_ ?_;kernel_rfl;simp only [Act.put,sA,sB,sC];refine @wpList_skip _ _ _ _ _ _ _ ?_ ?_;kernel_rfl;simp only [Act.put,sA,sB,sC];refine @wQ _ _ _ _ _ _ _ ?_ ?_;kernel_rfl;intro K hK;go_simp;refine hK _ _ ?_;clear hK K;have ib3:=HI.out.alloc (.cells #[.int .i64 y] 3)
    have kb3:=HK.out.alloc HK.out.size (.cells #[.int .i64 y] 3)
    obtain⟨v3,w3,e3,i3,g3⟩:=append_intR _ _ _ _ y ib3 wr.heap.size 1 (one_cellT (heap_new wr (.cells #[.int .i64 y] 3))) (by have:=putOut_len (l.take i) x true; have:=HTL.out; omega) kb3.size
    have k3:=kb3.grown g3 kb3.size (fun k e=>(World.ownsRow.lt ib3 k e).1)
    rw [HNX.out] at i3;obtain⟨vad3,vn3,vc3,hv3⟩:=one_slice i3;subst hv3;have E3:=hid e3;have I3:=hid i3;have K3:=hid k3;clear ib3 kb3 e3 i3 g3 k3
    go_upto_region 9 with fail
    refine wp_region_lit ?_;iterate 6 (refine @wQ _ _ _ _ _ _ _ ?_ ?_;kernel_rfl;intro K hK;go_simp;refine hK _ _ ?_;clear hK K)
    refine wpList_append_known rfl (.tmp 28) (.tmp 33) 29 29 29 rfl rfl (.slice vad vn vc) (.slice (some ⟨wr.heap.size,0,none⟩) 1 1) rfl rfl E3.out ?_
    simp only [Act.put,sA,sB,sC];refine @wQ _ _ _ _ _ _ _ ?_ ?_;kernel_rfl;intro K hK;go_simp;refine hK _ _ ?_;clear hK K;clear c0;go_wp2
    go_roundw
    case rel=>exact⟨i + 1,true,_,rfl,rfl,by simp,hid HLT.out,HDX,K3,I3⟩
    case measure=>have:=HLT.out; simp [RowKit.intOf]; omega
   | false=>
    by_cases hxy:x < y
    ·have HNW:=hid (show(putOut (l.take i) x false ++ [x]) ++ [y] = putOut (l.take (i + 1)) x true by
      unfold putOut;rw [if_neg (by decide),if_pos rfl,HTK.out,put_over _ _ _ HD.out.symm,Tt.put,if_pos hxy,List.append_assoc]
      rfl)
     have HDX:=hid (show true = (l.take (i + 1)).any (fun y=>decide (x < y)) by rw [HTK.out,List.any_append,List.any_cons,decide_eq_true hxy,Bool.true_or,Bool.or_true])
     go_upto_region 6 with fail
     refine wp_region_lit ?_;iterate 10 (refine @wQ _ _ _ _ _ _ _ ?_ ?_;kernel_rfl;intro K hK;go_simp;refine hK _ _ ?_;clear hK K)
     have ib3:=HI.out.alloc (.cells #[.int .i64 x] 3)
     have kb3:=HK.out.alloc HK.out.size (.cells #[.int .i64 x] 3)
     obtain⟨v3,w3,e3,i3,g3⟩:=append_intR _ _ _ _ x ib3 wr.heap.size 1 (one_cellT (heap_new wr (.cells #[.int .i64 x] 3))) (by have:=putOut_len (l.take i) x false; have:=HTL.out; omega) kb3.size
     have k3:=kb3.grown g3 kb3.size (fun k e=>(World.ownsRow.lt ib3 k e).1)
     obtain⟨vad3,vn3,vc3,hv3⟩:=one_slice i3;subst hv3;have E3:=hid e3;have I3:=hid i3;have K3:=hid k3;clear ib3 kb3 e3 i3 g3 k3
     go_upto_region 7 with fail
     refine wp_region_lit ?_;iterate 3 (refine @wQ _ _ _ _ _ _ _ ?_ ?_;kernel_rfl;intro K hK;go_simp;refine hK _ _ ?_;clear hK K)
     refine wpList_append_known rfl (.tmp 24) (.tmp 26) 29 29 29 rfl rfl (.slice vad vn vc) (.slice (some ⟨wr.heap.size,0,none⟩) 1 1) rfl rfl E3.out ?_
     simp only [Act.put,sA,sB,sC];refine @wQ _ _ _ _ _ _ _ ?_ ?_;kernel_rfl;intro K hK;go_simp;refine hK _ _ ?_;clear hK K;clear c0;have c0:=(K3.out.cell (p:=⟨g,o + i,none⟩) HGS.out (Nat.ne_of_lt HGS.out)).trans HCE.out;have ib4:=I3.out.alloc (.cells #[.int .i64 y] 3)
     have kb4:=K3.out.alloc K3.out.size (.cells #[.int .i64 y] 3)
     obtain⟨v4,w4,e4,i4,g4⟩:=append_intR _ _ _ _ y ib4 w3.heap.size 1 (one_cellT (heap_new w3 (.cells #[.int .i64 y] 3))) (by rw [List.length_append]; have:=putOut_len (l.take i) x false; have:=HTL.out; simp only [List.length_singleton]; omega) kb4.size
     have k4:=kb4.grown g4 kb4.size (fun k e=>(World.ownsRow.lt ib4 k e).1)
     rw [HNW.out] at i4;obtain⟨vad4,vn4,vc4,hv4⟩:=one_slice i4;subst hv4;have E4:=hid e4;have I4:=hid i4;have K4:=hid k4;clear ib4 kb4 e4 i4 g4 k4
     go_upto_region 9 with fail
     refine wp_region_lit ?_;iterate 6 (refine @wQ _ _ _ _ _ _ _ ?_ ?_;kernel_rfl;intro K hK;go_simp;refine hK _ _ ?_;clear hK K)
     refine wpList_append_known rfl (.tmp 28) (.tmp 33) 29 29 29 rfl rfl (.slice vad3 vn3 vc3) (.slice (some ⟨w3.heap.size,0,none⟩) 1 1) rfl rfl E4.out ?_
     simp only [Act.put,sA,sB,sC];refine @wQ _ _ _ _ _ _ _ ?_ ?_;kernel_rfl;intro K hK;go_simp;refine hK _ _ ?_;clear hK K;clear c0;go_wp2
     go_roundw
     case rel=>exact⟨i + 1,true,_,rfl,rfl,by simp,hid HLT.out,HDX,K4,I4⟩
     case measure=>have:=HLT.out; simp [RowKit.intOf]; omega
    ·have HNX:=hid (show putOut (l.take i) x false ++ [y] = putOut (l.take (i + 1)) x false by unfold putOut; rw [if_neg (by decide),if_neg (by decide),HTK.out])
     have HDX:=hid (show false = (l.take (i + 1)).any (fun y=>decide (x < y)) by rw [HTK.out,List.any_append,List.any_cons,decide_eq_false hxy,Bool.false_or,List.any_nil,Bool.or_false]; exact HD.out)
     go_upto_region 6 with fail
     refine wp_region_lit ?_;iterate 10 (refine @wQ _ _ _ _ _ _ _ ?_ ?_;kernel_rfl;intro K hK;go_simp;refine hK _ _ ?_;clear hK K)
     have ib3:=HI.out.alloc (.cells #[.int .i64 y] 3)
     have kb3:=HK.out.alloc HK.out.size (.cells #[.int .i64 y] 3)
     obtain⟨v3,w3,e3,i3,g3⟩:=append_intR _ _ _ _ y ib3 wr.heap.size 1 (one_cellT (heap_new wr (.cells #[.int .i64 y] 3))) (by have:=putOut_len (l.take i) x false; have:=HTL.out; omega) kb3.size
     have k3:=kb3.grown g3 kb3.size (fun k e=>(World.ownsRow.lt ib3 k e).1)
     rw [HNX.out] at i3;obtain⟨vad3,vn3,vc3,hv3⟩:=one_slice i3;subst hv3;have E3:=hid e3;have I3:=hid i3;have K3:=hid k3;clear ib3 kb3 e3 i3 g3 k3
     go_upto_region 9 with fail
     refine wp_region_lit ?_;iterate 6 (refine @wQ _ _ _ _ _ _ _ ?_ ?_;kernel_rfl;intro K hK;go_simp;refine hK _ _ ?_;clear hK K)
     refine wpList_append_known rfl (.tmp 28) (.tmp 33) 29 29 29 rfl rfl (.slice vad vn vc) (.slice (some ⟨wr.heap.size,0,none⟩) 1 1) rfl rfl E3.out ?_
     simp only [Act.put,sA,sB,sC];refine @wQ _ _ _ _ _ _ _ ?_ ?_;kernel_rfl;intro K hK;go_simp;refine hK _ _ ?_;clear hK K;clear c0;go_wp2
     go_roundw
     case rel=>exact⟨i + 1,false,_,rfl,rfl,by simp,hid HLT.out,HDX,K3,I3⟩
     case measure=>have:=HLT.out; simp [RowKit.intOf]; omega
  ·have hnl:¬ (i:Int) < (ln:Int):=by omega
   have HE:=hid (show l.take i = l by have:=hi.out; rw [show i = l.length by rw [← HLN.out]; omega]; exact List.take_length)
   have HTL:=hid (show l.length≤1000 by have:=HLN.out; omega)
   clear hlt hi;rw [HE.out] at HD HI
   cases dn with
   | true=>
    go_upto_region 10 with fail
    refine wp_region_lit ?_;iterate 2 (refine @wQ _ _ _ _ _ _ _ ?_ ?_;kernel_rfl;intro K hK;go_simp;refine hK _ _ ?_;clear hK K)
    go_wp2;go_ret;refine⟨_,rfl,?_,HK.out⟩;exact HI.out
   | false=>
    have HNX:=hid (show putOut l x false ++ [x] = Tt.put l x by
     unfold putOut;have:=put_over l [] x HD.out.symm;rw [List.append_nil] at this;rw [if_neg (by decide),this]
     rfl)
    go_upto_region 10 with fail
    refine wp_region_lit ?_;iterate 2 (refine @wQ _ _ _ _ _ _ _ ?_ ?_;kernel_rfl;intro K hK;go_simp;refine hK _ _ ?_;clear hK K)
    have ib3:=HI.out.alloc (.cells #[.int .i64 x] 3)
    have kb3:=HK.out.alloc HK.out.size (.cells #[.int .i64 x] 3)
    obtain⟨v3,w3,e3,i3,g3⟩:=append_intR _ _ _ _ x ib3 wr.heap.size 1 (one_cellT (heap_new wr (.cells #[.int .i64 x] 3))) (by have:=putOut_len l x false; have:=HTL.out; omega) kb3.size
    have k3:=kb3.grown g3 kb3.size (fun k e=>(World.ownsRow.lt ib3 k e).1)
    rw [HNX.out] at i3;obtain⟨vad3,vn3,vc3,hv3⟩:=one_slice i3;subst hv3;have E3:=hid e3;have I3:=hid i3;have K3:=hid k3;clear ib3 kb3 e3 i3 g3 k3
    go_upto_region 11 with fail
    refine wp_region_lit ?_;iterate 3 (refine @wQ _ _ _ _ _ _ _ ?_ ?_;kernel_rfl;intro K hK;go_simp;refine hK _ _ ?_;clear hK K)
    refine wpList_append_known rfl (.tmp 37) (.tmp 39) 29 29 29 rfl rfl (.slice vad vn vc) (.slice (some ⟨wr.heap.size,0,none⟩) 1 1) rfl rfl E3.out ?_
    simp only [Act.put,sA,sB,sC];refine @wQ _ _ _ _ _ _ _ ?_ ?_;kernel_rfl;intro K hK;go_simp;refine hK _ _ ?_;clear hK K;go_wp2;go_ret;exact⟨_,rfl,I3.out,K3.out⟩
section
variable {w:World} {base:Nat} {T:TypeId} {g n cap:Nat} {xs:List Value}
end
theorem put_length:∀ (l:List Int) (x:Int),(Tt.put l x).length = l.length + 1
 | [],_=>rfl
 | y :: t,x=>by
  rw [Tt.put]
  split
  ·rfl
  ·rw [List.length_cons,put_length t x,List.length_cons]
section
variable {B:Nat→Prop} {w w1:World} {lv:Value} {g n cap:Nat} {L:List Lf} {P:List Pr} {SL:List Value}
theorem Mine.loose (h:Mine B w lv (.slice (some ⟨g,0,none⟩) n cap) L P SL)(i:Nat)(hi:i < P.length)(hq:i < SL.length)(s:Value)(l:List Int)(gr:w.grownBy w1 SL[i].ownBlock)(hs:Ints w1 0 s l)(ho:s.ownBlock = SL[i].ownBlock∨∀ k,s.ownBlock = some k→w.heap.size≤k):
  Mine B (w1.setCell ⟨g,i * 66 + 65,none⟩ s) lv (.slice (some ⟨g,0,none⟩) n cap) L (P.set i { P[i] with loose:=l }) (SL.set i s)∧w1.grownBy (w1.setCell ⟨g,i * 66 + 65,none⟩ s) (some g):=by
 obtain⟨sad,sn,sc,rfl⟩:=one_slice hs;obtain⟨p,hp⟩:∃ p,p = P[i]:=⟨_,rfl⟩;obtain⟨t0,ht0⟩:∃ t0,t0 = SL[i]:=⟨_,rfl⟩;rw [← ht0] at gr ho;have ht0m:SL[i]? = some t0:=by rw [ht0]; exact List.getElem?_eq_getElem hq
 have ht0i:t0∈SL:=List.mem_of_getElem? ht0m;have hpok:p.Ok:=by rw [hp]; exact h.pok _ (List.getElem_mem hi)
 have hzl:=zip_len h;have gs:=grown_set w1 g (i * 66 + 65) (.slice sad sn sc);have hgw:g < w.heap.size:=(h.po.2.lt g rfl).2
 have hsw:∀ k,(Value.slice sad sn sc).ownBlock = some k→w.heap.size≤k∨(t0.ownBlock = some k∧k < w.heap.size):=fun k hk=>by
  rcases ho with e | e
  ·rw [e] at hk
   have hk2:=World.ownsRow.lt (h.so i p t0 (by rw [hp]; exact List.getElem?_eq_getElem hi) ht0m) k hk
   exact .inr ⟨hk,hk2.2⟩
  ·exact .inl (e k hk)
 have hdif:∀ a:Option Nat,(∀ k,a = some k→k < w.heap.size)→Dif a t0.ownBlock→Dif a (Value.slice sad sn sc).ownBlock:=fun a ha hd=>by
  cases a with
  | none=>exact .inl rfl
  | some a=>
   refine .inr fun e=>?_
   rcases hsw a e.symm with e2 | ⟨e2,_⟩
   ·have:=ha a rfl; omega
   ·exact hd.elim (fun e=>nomatch e) (fun e3=>e3 e2.symm)
 have hgn:(Value.slice sad sn sc).ownBlock = none∨(Value.slice sad sn sc).ownBlock≠some g:=by
  refine .inr fun e=>?_
  rcases hsw g e with e2 | ⟨e2,_⟩
  ·omega
  ·exact(h.dps t0 ht0i).elim (fun e=>nomatch e) (fun e3=>e3 e2.symm)
 have hne:∀ x:Value,Dif (some g) x.ownBlock→x.ownBlock = none∨x.ownBlock≠some g:=fun x hx=>.inr fun e=>hx.elim (fun e2=>nomatch e2) (fun e2=>e2 e.symm)
 have po1:=h.po.grown gr (h.dps t0 ht0i);rw [← hzl] at hi;obtain⟨ad,g2,c2,hv2,hc2,_⟩:=po1.at;have hnn:n = (List.zipWith Pr.cells P SL).length:=by injection hv2
 subst hnn;obtain⟨q1,q2,_⟩:=OwnC.part po1 i hi 65 [.slice sad sn sc] (by simp) (fun y hy=>by rw [List.mem_singleton.1 hy]; rfl)
 have hrow:putList (List.zipWith Pr.cells P SL)[i] 65 [.slice sad sn sc] = Pr.cells { p with loose:=l } (.slice sad sn sc):=by
  rw [List.getElem_zipWith,← hp];exact pr_set hpok _ _
 rw [hrow,← zip_set] at q1;rw [hzl] at hi;refine⟨?_,gs⟩
 have hlt:∀ (j:Nat) (t:Value),SL[j]? = some t→∀ k,t.ownBlock = some k→k < w.heap.size:=fun j t ht k e=>by
  have hj:j < P.length:=by rw [← h.len]; exact(List.getElem?_eq_some_iff.1 ht).1
  exact(World.ownsRow.lt (h.so j _ t (List.getElem?_eq_getElem hj) ht) k e).2
 rw [← hp]
 exact { h with
  pok:=fun x hx=>(List.mem_or_eq_of_mem_set hx).elim (h.pok x) (fun e=>e ▸ hpok)
  lo:=(h.lo.grown gr (h.dls t0 ht0i)).grown gs (hne lv h.dlp.symm)
  len:=by rw [List.length_set,List.length_set,h.len]
  po:=q1
  so:=fun j q t hqq ht=>by
   by_cases hj:i = j
   ·subst hj
    rw [List.getElem?_set_self hi] at hqq;rw [List.getElem?_set_self hq] at ht
    cases hqq
    cases ht
    exact World.ownsRow.kept hs gs hgn
   ·rw [List.getElem?_set_ne hj] at hqq ht
    exact World.ownsRow.kept (World.ownsRow.kept (h.so j q t hqq ht) gr (h.dss j i t t0 (fun e=>hj e.symm) ht ht0m)) gs (hne t (h.dps t (List.mem_of_getElem? ht)))
  dls:=fun t ht=>(List.mem_or_eq_of_mem_set ht).elim (h.dls t) (fun e=>by rw [e]; exact hdif _ (fun k hk=>(h.lo.2.lt k hk).2) (h.dls t0 ht0i))
  dps:=fun t ht=>(List.mem_or_eq_of_mem_set ht).elim (h.dps t) (fun e=>by rw [e]; exact hdif _ (fun k hk=>(h.po.2.lt k hk).2) (h.dps t0 ht0i))
  dss:=fun a b x y hab hx hy=>by
   by_cases ha:i = a
   ·subst ha
    rw [List.getElem?_set_self hq] at hx;rw [List.getElem?_set_ne hab] at hy
    cases hx
    exact(hdif _ (hlt b y hy) (h.dss b i y t0 (fun e=>hab e.symm) hy ht0m)).symm
   ·rw [List.getElem?_set_ne ha] at hx
    by_cases hb2:i = b
    ·subst hb2
     rw [List.getElem?_set_self hq] at hy
     cases hy
     exact hdif _ (hlt a x hx) (h.dss a i x t0 hab hx ht0m)
    ·rw [List.getElem?_set_ne hb2] at hy
     exact h.dss a b x y hab hx hy
  os:=fun t ht=>(List.mem_or_eq_of_mem_set ht).elim (h.os t) (fun e k hk b=>by
   rw [e] at hk
   rcases hsw k hk with e2 | ⟨e2,_⟩
   ·have:=h.bnd k b; omega
   ·exact h.os t0 ht0i k e2 b)
  bnd:=fun k hk=>Nat.lt_of_lt_of_le (h.bnd k hk) (Nat.le_trans gr.size gs.size) }
end
end Go.Proofs.Ytlpabcnhcbgfjaa
