/-
 TreeSort; TreeNames; TreeRefNames; TreePlacesLaw: several texts in one.
-/
import Derived.Test.YtaobiofngnfdiaaGreatDoorTreeCopied
import Derived.Test.YtaobiofngnfdiaaGreatDoorHK
import Derived.Test.YtaobiofngnfdiaaGreatDoorSortI
import Derived.Test.YtaobiofngnfdiaaGreatDoorTreeAwake
import Derived.Test.YtaobiofngnfdiaaGreatDoorTreeFew
import Derived.Test.YtaobiofngnfdiaaGreatDoorTreeRefRight
set_option maxRecDepth 100000
set_option maxHeartbeats 6400000
namespace Go.Proofs.YtaobiofngnfdiaaGreatDoor
open Go.RowKit Go.Lib
open List renaming setIfInBounds_toArray → sA, set_cons_zero → sB, set_cons_succ → sC
open BigFrame renaming wpList_want → wQ
def sortI (L:List Int):List Int:=L.mergeSort fun x y=>decide (x≤y)
theorem sortI_length (L:List Int):(sortI L).length = L.length:=List.length_mergeSort L
theorem sort_ints (w:World)(base:Nat)(v:Value)(L:List Int)(h:Ints w base v L)(hn:L.length≤100000):Calls Tryz.prog 51 #[v] w fun e w'=>e = .returned (.tuple #[])∧Ints w' base v (sortI L)∧w.grownBy w' v.ownBlock:=by
 have h0:=h
 rcases h.2 with ⟨rfl,hz⟩ | ⟨g,cap,cur,rfl,hb,hg,hnc,hcm,hcs,htk⟩
 ·obtain rfl:=List.length_eq_zero_iff.1 hz
  refine(Tryz.slices_Sort_int_none none 0 w).mono ?_;rintro e w' ⟨rfl,rfl⟩;exact⟨rfl,by rw [sortI,List.mergeSort_nil]; exact World.ownsRow_nil _ _ _ _,⟨rfl,rfl,rfl,Nat.le_refl _,fun _ _ _=>rfl⟩⟩
 ·have hgl:g < w.heap.size:=(World.ownsRow.lt h0 g rfl).2
  have hH:Go.Sort.Holds (Value.int .i64) w g 0 L.toArray:=fun j hj=>by
   have hj':j < L.length:=by simpa using hj
   rw [Nat.zero_add];have h1:=World.ownsRow.cellAt (show w.ownsRow base 3 1 (.slice (some ⟨g,0,none⟩) L.length cap) L.length (L.map (Value.int .i64)) from h0) j (by omega)
   refine⟨?_,World.ownsRow.frozenAt (show w.ownsRow base 3 1 (.slice (some ⟨g,0,none⟩) L.length cap) L.length (L.map (Value.int .i64)) from h0) j⟩
   rw [h1,List.getElem?_map,List.getElem?_eq_getElem hj',getElem!_pos _ j hj];simp
  refine(Tryz.slices_Sort_int g 0 cap L w hH hgl (by omega)).mono ?_
  rintro e w' ⟨rfl,n,os,rfl⟩;have hlen:(sortI L).length = L.length:=sortI_length L;have hg':(Go.Sort.ahead w n).heap[g]? = some (.cells cur 3 (0,0)):=hg
  have hms:((Go.Sort.ahead w n).heap.modify g (Go.Sort.onCells (Go.Sort.putCells (Value.int .i64) 0 (sortI L).toArray))).size = w.heap.size:=Array.size_modify ..
  have hblk:(Go.Sort.grow (Go.Sort.putRow (Value.int .i64) (Go.Sort.ahead w n) g 0 (sortI L).toArray) os).heap[g]? = some (.cells (Go.Sort.putCells (Value.int .i64) 0 (sortI L).toArray cur) 3 (0,0)):=by
   show((Go.Sort.ahead w n).heap.modify g (Go.Sort.onCells _) ++ os)[g]? = _;rw [Array.getElem?_append_left (by rw [hms]; exact hgl),Array.getElem?_modify,if_pos rfl,hg']
   rfl
  refine⟨rfl,⟨by rw [List.length_map,Nat.mul_one],.inr ⟨g,cap,_,by rw [hlen],hb,hblk,by rw [hlen]; exact hnc,hcm,?_,?_⟩⟩,?_⟩
  ·rw [← hcs]
   simp [Go.Sort.putCells]
  ·rw [hlen,Nat.mul_one]
   refine List.ext_getElem? fun j=>?_
   rcases Nat.lt_or_ge j L.length with hj | hj
   ·have hjs:j < (sortI L).length:=by rw [hlen]; exact hj
    have hjc:j < cur.size:=by rw [hcs]; omega
    rw [List.getElem?_map,List.getElem?_eq_getElem hjs,List.getElem?_take_of_lt hj,Array.getElem?_toList];simp only [Go.Sort.putCells,Array.getElem?_mapIdx,Array.getElem?_eq_getElem hjc,Option.map_some];rw [if_pos ⟨Nat.zero_le _,by simpa using hjs⟩,Nat.sub_zero,getElem!_pos _ j (by simpa using hjs)]
    simp
   ·rw [List.getElem?_eq_none (by rw [List.length_take]; omega),List.getElem?_eq_none (by rw [List.length_map,hlen]; exact hj)]
  ·refine⟨rfl,rfl,rfl,?_,fun k hk hne=>?_⟩
   ·show w.heap.size≤((Go.Sort.ahead w n).heap.modify g (Go.Sort.onCells _) ++ os).size
    rw [Array.size_append,Array.size_modify];exact Nat.le_add_right _ _
   ·show((Go.Sort.ahead w n).heap.modify g (Go.Sort.onCells _) ++ os)[k]? = _
    rw [Array.getElem?_append_left (by rw [Array.size_modify]; exact hk),Array.getElem?_modify,if_neg (by rintro rfl; exact hne rfl)]
    rfl
theorem append_int1 (w:World)(base:Nat)(v:Value)(L:List Int)(x:Int)(h:Ints w base v L)(b c:Nat)(hb:w.cell? ⟨b,0,none⟩ = some (.int .i64 x))(hn:L.length < 100000)(hbase:base≤w.heap.size):
  ∃ v' w',(Builtin.append_ #[57,57] 57 #[v,.slice (some ⟨b,0,none⟩) 1 c]).run Tryz.prog w = .ok v' w'∧Ints w' base v' (L ++ [x])∧w.grownBy w' v.ownBlock:=by
 obtain⟨i0,hi,hz0,hz1,hz2⟩:=info_parts intInfo
 obtain⟨v',w',e1,e2,e3,_⟩:=run_append_own_at (P:=Tryz.prog) (w:=w) base 57 57 3 i0 (.int .i64 0) 1 8 Tryz.underlying57 hi hz0 hz1 hz2 rfl (by decide) v L.length (L.map (Value.int .i64)) h ⟨b,0,none⟩ 1 c [.int .i64 x]
  rfl (fun j u hu=>by
   rw [Addr.add_lit]
   match j,hu with
   | 0,hu=>cases hu; exact hb) (fun u hu=>by rw [List.mem_singleton.1 hu]; rfl) (by unfold maxLen; omega) (by omega) hbase
 refine⟨v',w',e1,?_,e3⟩;unfold Ints;rw [List.length_append,List.map_append];exact e2
namespace Tt
def names:List Lf→List Int
 | []=>[]
 | l :: L=>if l.name == 0 then names L else l.name :: names L
theorem names_snoc (l:Lf):∀ L,names (L ++ [l]) = if l.name == 0 then names L else names L ++ [l.name]
 | []=>by simp [names]
 | x :: L=>by
  rw [List.cons_append,names,names_snoc l L,names]
  split <;> split <;> rfl
theorem names_length:∀ L,(names L).length≤L.length
 | []=>Nat.le_refl _
 | l :: L=>by
  have:=names_length L;rw [names]
  split
  ·exact Nat.le_succ_of_le this
  ·rw [List.length_cons,List.length_cons]; omega
theorem names_mem {y:Int}:∀ {L:List Lf},y∈names L↔y≠0∧∃ l∈L,l.name = y
 | []=>by simp [names]
 | l :: L=>by
  rw [names]
  by_cases h:l.name = 0
  ·have hb:(l.name == 0) = true:=by rw [beq_iff_eq]; exact h
   rw [if_pos hb,names_mem]
   constructor
   ·rintro ⟨h1,x,h2,h3⟩
    exact⟨h1,x,List.mem_cons_of_mem _ h2,h3⟩
   ·rintro ⟨h1,x,h2,h3⟩
    rcases List.mem_cons.1 h2 with rfl | h2
    ·exact absurd (h3.symm.trans h) h1
    ·exact⟨h1,x,h2,h3⟩
  ·have hb:(l.name == 0) = false:=by rw [beq_eq_false_iff_ne]; exact h
   rw [if_neg (by rw [hb]; decide),List.mem_cons,names_mem]
   constructor
   ·rintro (rfl | ⟨h1,x,h2,h3⟩)
    ·exact⟨h,l,List.mem_cons_self ..,rfl⟩
    ·exact⟨h1,x,List.mem_cons_of_mem _ h2,h3⟩
   ·rintro ⟨h1,x,h2,h3⟩
    rcases List.mem_cons.1 h2 with rfl | h2
    ·exact .inl h3.symm
    ·exact .inr ⟨h1,x,h2,h3⟩
theorem leavesOk_names:∀ (L:List Lf) (M:List Int),leavesOk M L = true→(names L).Nodup∧∀ y∈names L,1≤y∧y≤64∧y∉M
 | [],_,_=>⟨List.nodup_nil,fun _ h=>nomatch h⟩
 | l :: L,M,h=>by
  rw [leavesOk] at h;rw [names]
  split at h
  ·rename_i hs
   have hz:=Lf.same_iff.1 hs;rw [if_pos (by rw [hz]; rfl)]
   exact leavesOk_names L M h
  ·simp only [Bool.and_eq_true,decide_eq_true_eq,Bool.not_eq_true'] at h
   obtain⟨h1,h2,h3,h4⟩:=h;rw [if_neg (by rw [beq_iff_eq]; omega)]
   obtain⟨h5,h6⟩:=leavesOk_names L (l.name :: M) h4
   have h3':l.name∉M:=fun hm=>by
    rw [List.contains_iff_mem.2 hm] at h3
    cases h3
   refine⟨List.nodup_cons.2 ⟨fun hm=>(h6 _ hm).2.2 (List.mem_cons_self ..),h5⟩,fun y hy=>?_⟩
   rcases List.mem_cons.1 hy with rfl | hy
   ·exact⟨h1,h2,h3'⟩
   ·obtain⟨a,b,c⟩:=h6 y hy
    exact⟨a,b,fun hm=>c (List.mem_cons_of_mem _ hm)⟩
def rnamesTo (L:List Lf):Nat→List Int
 | 0=>[]
 | k + 1=>if 0≤rplace L ((k + 1:Nat):Int) then rnamesTo L k ++ [((k + 1:Nat):Int)] else rnamesTo L k
def rnames (L:List Lf):List Int:=rnamesTo L 64
theorem rnamesTo_length (L:List Lf):∀ k,(rnamesTo L k).length≤k
 | 0=>Nat.le_refl _
 | k + 1=>by
  have:=rnamesTo_length L k;rw [rnamesTo]
  split
  ·rw [List.length_append]; exact Nat.succ_le_succ this
  ·exact Nat.le_succ_of_le this
theorem rnamesTo_mem (L:List Lf){y:Int}:∀ k,y∈rnamesTo L k↔1≤y∧y≤(k:Int)∧0≤rplace L y
 | 0=>by
  simp only [rnamesTo,List.not_mem_nil,false_iff];intro h
  omega
 | k + 1=>by
  have ih:=rnamesTo_mem L (y:=y) k;rw [rnamesTo]
  split
  ·rename_i h
   rw [List.mem_append,List.mem_singleton,ih]
   constructor
   ·rintro (⟨a,b,c⟩ | rfl)
    ·exact⟨a,by omega,c⟩
    ·exact⟨by omega,by omega,h⟩
   ·rintro ⟨a,b,c⟩
    by_cases hy:y = ((k + 1:Nat):Int)
    ·exact .inr hy
    ·exact .inl ⟨a,by omega,c⟩
  ·rename_i h
   rw [ih]
   constructor
   ·rintro ⟨a,b,c⟩
    exact⟨a,by omega,c⟩
   ·rintro ⟨a,b,c⟩
    by_cases hy:y = ((k + 1:Nat):Int)
    ·rw [hy] at c
     exact absurd c h
    ·exact⟨a,by omega,c⟩
theorem rnamesTo_rises (L:List Lf):∀ k,(rnamesTo L k).Pairwise (· < ·)
 | 0=>List.Pairwise.nil
 | k + 1=>by
  rw [rnamesTo]
  split
  ·rw [List.pairwise_append]
   refine⟨rnamesTo_rises L k,List.pairwise_singleton _ _,fun a ha b hb=>?_⟩
   rw [List.mem_singleton.1 hb];have:=((rnamesTo_mem L k).1 ha).2.1
   omega
  ·exact rnamesTo_rises L k
theorem rising_one:∀ (a b:List Int),a.Pairwise (· < ·)→b.Pairwise (· < ·)→(∀ x,x∈a↔x∈b)→a = b
 | [],[],_,_,_=>rfl
 | [],y :: b,_,_,h=>by have:=(h y).2 (List.mem_cons_self ..); cases this
 | x :: a,[],_,_,h=>by have:=(h x).1 (List.mem_cons_self ..); cases this
 | x :: a,y :: b,ha,hb,h=>by
  obtain⟨ha1,ha2⟩:=List.pairwise_cons.1 ha;obtain⟨hb1,hb2⟩:=List.pairwise_cons.1 hb
  have hxy:x = y:=by
   rcases List.mem_cons.1 ((h x).1 (List.mem_cons_self ..)) with h1 | h1
   ·exact h1
   ·rcases List.mem_cons.1 ((h y).2 (List.mem_cons_self ..)) with h2 | h2
    ·exact h2.symm
    ·have:=hb1 x h1
     have:=ha1 y h2
     omega
  subst hxy;rw [rising_one a b ha2 hb2 fun z=>?_]
  constructor
  ·intro hz
   rcases List.mem_cons.1 ((h z).1 (List.mem_cons_of_mem _ hz)) with rfl | h1
   ·have:=ha1 z hz; omega
   ·exact h1
  ·intro hz
   rcases List.mem_cons.1 ((h z).2 (List.mem_cons_of_mem _ hz)) with rfl | h1
   ·have:=hb1 z hz; omega
   ·exact h1
theorem index_there {L:List Lf}{y:Int}:0≤index L y↔∃ l∈L,l.name = y:=by
 unfold index
 cases h:L.findIdx? (fun l=>l.name == y) with
 | none=>
  rw [List.findIdx?_eq_none_iff] at h
  constructor
  ·intro h1
   simp at h1
  ·rintro ⟨l,hl,h1⟩
   have:=h l hl;rw [beq_eq_false_iff_ne] at this;exact absurd h1 this
 | some i=>
  rw [List.findIdx?_eq_some_iff_getElem] at h;obtain⟨hi,h1,_⟩:=h;rw [beq_iff_eq] at h1
  constructor
  ·intro _
   exact⟨_,List.getElem_mem hi,h1⟩
  ·intro _
   simp
theorem names_same {L:List Lf}{P:List Pr}(h:right L P = true):sortI (names L) = rnames L:=by
 simp only [right,Bool.and_eq_true] at h;obtain⟨hnd,hb⟩:=leavesOk_names L [] h.2.2.2.1;have hperm:(sortI (names L)).Perm (names L):=List.mergeSort_perm _ _
 have hp:=List.pairwise_mergeSort (le:=fun x y:Int=>decide (x≤y)) (fun a b c h1 h2=>by
  simp only [decide_eq_true_eq] at h1 h2 ⊢
  omega) (fun a b=>by
  simp only [Bool.or_eq_true,decide_eq_true_eq]
  omega) (names L)
 have hn2:(sortI (names L)).Nodup:=hperm.nodup_iff.2 hnd;refine rising_one _ _ ?_ (rnamesTo_rises L 64) fun x=>?_
 ·have hp2:(sortI (names L)).Pairwise (fun a b=>decide (a≤b) = true):=hp
  refine(hp2.and hn2).imp fun h1=>?_
  obtain⟨h1,h2⟩:=h1;have h1:=of_decide_eq_true h1;have h2:_≠_:=h2
  omega
 ·rw [hperm.mem_iff]
  unfold rnames;rw [rnamesTo_mem,names_mem]
  constructor
  ·rintro ⟨h1,h2⟩
   obtain⟨h3,h4,_⟩:=hb x (names_mem.2 ⟨h1,h2⟩);refine⟨h3,h4,?_⟩;rw [rplace,if_pos (by omega)]
   exact index_there.2 h2
  ·rintro ⟨h1,h2,h3⟩
   rw [rplace,if_pos (by omega)] at h3
   exact⟨by omega,index_there.1 h3⟩
end Tt
theorem rightornone_yes (lv pv:Value)(L:List Lf)(P:List Pr)(w:World)(hL:Lvs w lv L)(hP:Pts w pv P)(hn:L.length≤1000)(hp:P.length≤1000)(hpl:∀ p∈P,p.loose.length≤1000)(hr:Tt.right L P = true):
  Calls Tryz.prog 50 #[.agg #[lv,pv]] w fun e w'=>e = .returned (.agg #[lv,pv])∧Kept w.heap.size w.heap.size w w':=by
 have HRR:=hid (fun(x:World) (k:Kept w.heap.size w.heap.size w x)=>right_calls8 lv pv L P x (hL.kept k) (hP.kept k) hn hp hpl)
 rw [hr] at HRR;obtain⟨lad,lc,rfl⟩:=hL.shape;obtain⟨pad,pc,rfl⟩:=hP.shape;obtain⟨ln,hln⟩:∃ ln,ln = L.length:=⟨_,rfl⟩;obtain⟨pn,hpn⟩:∃ pn,pn = P.length:=⟨_,rfl⟩;rw [← hln,← hpn] at HRR ⊢;clear hL hP hn hp hpl hr hln hpn;have k1:=kA w (.cells #[.slice lad ln lc,.slice pad pn pc] 27)
 have t1:=heap_new w (.cells #[.slice lad ln lc,.slice pad pn pc] 27)
 have s1:(w.alloc (.cells #[.slice lad ln lc,.slice pad pn pc] 27)).heap.size = w.heap.size + 1:=by simp
 go_enter Tryz.func50,Tryz.ntmps50
 go_upto_region 1 with fail
 generalize w.alloc (.cells #[.slice lad ln lc,.slice pad pn pc] 27) = wa at k1 t1 s1 ⊢
 have k3:=kA wa (.cells #[.slice none 0 0,.slice none 0 0] 27)
 have r3:=heap_new wa (.cells #[.slice none 0 0,.slice none 0 0] 27)
 have t3:=rk t1 k3;generalize wa.alloc (.cells #[.slice none 0 0,.slice none 0 0] 27) = w1 at k3 r3 t3 ⊢
 have K1:=hid (k1.next1 k3);rw [s1] at r3
 (try rw [s1])
 obtain⟨tb,htb⟩:∃ tb,tb = w.heap.size:=⟨_,rfl⟩;obtain⟨rb,hrb⟩:∃ rb,rb = w.heap.size + 1:=⟨_,rfl⟩;rw [← hrb] at r3
 (try rw [← hrb])
 rw [← htb] at t3
 (try rw [← htb])
 have HRB:=hid (show w.heap.size≤rb by omega)
 have T1:=hid t3;have R1:=hid r3;clear k1 t1 s1 k3 r3 t3 htb hrb;refine wp_region_lit ?_;refine @wpList_load_known _ _ _ _ _ _ _ ?_ 27 (.tmp 1) rfl (tb) (0) rfl (.agg #[.slice lad ln lc,.slice pad pn pc]) (run_loadVar_row w1 tb 27 27 _ (0,0) _ T1.out Tryz.underlying27 rfl treeInfo) ?_;kernel_rfl
 simp only [Act.put,sA,sB,sC];refine @wQ _ _ _ _ _ _ _ ?_ ?_;kernel_rfl;intro K hK;go_simp;go_at_call 9
 refine(HRR.out _ K1.out).mono ?_;rintro e w2 ⟨rfl,k2⟩;have K2:=hid (K1.out.next1 k2);have T2:=hid (rk T1.out k2);have R2:=hid (rk R1.out k2);clear k2;refine hK _ _ ?_;clear hK K;refine @wQ _ _ _ _ _ _ _ ?_ ?_;kernel_rfl;intro K hK;go_simp;refine hK _ _ ?_;clear hK K
 go_upto_region 3 with fail
 refine wp_region_lit ?_;refine @wpList_load_known _ _ _ _ _ _ _ ?_ 27 (.tmp 1) rfl (tb) (0) rfl (.agg #[.slice lad ln lc,.slice pad pn pc]) (run_loadVar_row w2 tb 27 27 _ (0,0) _ T2.out Tryz.underlying27 rfl treeInfo) ?_;kernel_rfl
 simp only [Act.put,sA,sB,sC];refine wpList_store_row rfl 27 _ _ rfl (rb) #[.slice lad ln lc,.slice pad pn pc] rfl rfl 27 #[.slice none 0 0,.slice none 0 0] R2.out treeInfo rfl (tree_all _ _ _ _ _ _) ?_
 simp only [Act.put];have R3:=setRow_heap w2 rb _ #[.slice lad ln lc,.slice pad pn pc] _ _ R2.out;have K3:=hid (K2.out.grown (grown_setRow w2 rb #[.slice lad ln lc,.slice pad pn pc]) K2.out.size (fun k e=>by cases e; exact HRB.out))
 generalize w2.setRow rb #[.slice lad ln lc,.slice pad pn pc] = w3 at R3 K3 ⊢;go_wp2;refine bodyPost_ret (results_cell_row rfl _ _ rb 27 _ (0,0) _ rfl R3 Tryz.underlying27 rfl treeInfo) rfl ?_
 exact⟨rfl,K3.out⟩
theorem names_calls (lv pv:Value)(L:List Lf)(P:List Pr)(w:World)(hL:Lvs w lv L)(hP:Pts w pv P)(hn:L.length≤1000)(hp:P.length≤1000)(hpl:∀ p∈P,p.loose.length≤1000)(hr:Tt.right L P = true):
  Calls Tryz.prog 23 #[.agg #[lv,pv]] w fun e w'=>∃ v,e = .returned v∧Ints w' w.heap.size v (sortI (Tt.names L))∧Kept w.heap.size w.heap.size w w':=by
 have HRN:=hid (fun(x:World) (k:Kept w.heap.size w.heap.size w x)=>rightornone_yes lv pv L P x (hL.kept k) (hP.kept k) hn hp hpl hr)
 obtain⟨pad,pc,rfl⟩:=hP.shape;obtain⟨lad,lg,lo,lc,rfl,hc,_⟩:=hL;obtain⟨ln,hln⟩:∃ ln,ln = L.length:=⟨_,rfl⟩;obtain⟨pn,hpn⟩:∃ pn,pn = P.length:=⟨_,rfl⟩;rw [← hln,← hpn] at HRN ⊢;have hln9:(ln:Int)≤1000:=by omega
 have HLN:=hid hln;have HC:=hid hc;have HNL:=hid (fun i=>Nat.le_trans (Tt.names_length (L.take i)) (show(L.take i).length≤1000 by rw [List.length_take]; omega))
 clear hP hn hp hpl hr hln hpn hc;have k1:=kA w (.cells #[.slice lad ln lc,.slice pad pn pc] 27)
 have t1:=heap_new w (.cells #[.slice lad ln lc,.slice pad pn pc] 27)
 go_enter Tryz.func23,Tryz.ntmps23
 go_upto_region 2 with fail
 generalize w.alloc (.cells #[.slice lad ln lc,.slice pad pn pc] 27) = w1 at k1 t1 ⊢
 obtain⟨tb,htb⟩:∃ tb,tb = w.heap.size:=⟨_,rfl⟩;rw [← htb] at t1
 (try rw [← htb])
 have K1:=hid k1;have T1:=hid t1;clear k1 t1 htb;refine wp_region_lit ?_;refine @wpList_load_known _ _ _ _ _ _ _ ?_ 27 (.tmp 1) rfl (tb) (0) rfl (.agg #[.slice lad ln lc,.slice pad pn pc]) (run_loadVar_row w1 tb 27 27 _ (0,0) _ T1.out Tryz.underlying27 rfl treeInfo) ?_;kernel_rfl
 simp only [Act.put,sA,sB,sC];refine @wQ _ _ _ _ _ _ _ ?_ ?_;kernel_rfl;intro K hK;go_simp;go_at_call 50
 refine(HRN.out _ K1.out).mono ?_;rintro e w2 ⟨rfl,k2⟩;have K2:=hid (K1.out.next1 k2);clear k2;refine hK _ _ ?_;clear hK K;iterate 3 (refine @wQ _ _ _ _ _ _ _ ?_ ?_;kernel_rfl;intro K hK;go_simp;refine hK _ _ ?_;clear hK K)
 go_wp2;have I2:=hid (show Ints w2 w.heap.size (.slice none 0 0) (Tt.names (L.take 0)) from World.ownsRow_nil _ _ _ _)
 go_loopw [3,10] (fun s3 s10 wr=>∃ i:Nat,∃ v,s3 = v∧s10 = .int .i64 (i:Int)∧Hid (i≤ln)∧Hid (Kept w.heap.size w.heap.size w wr)∧Hid (Ints wr w.heap.size v (Tt.names (L.take i)))) (fun _ s10 _=>ln - (RowKit.intOf s10).toNat)
 case atStart=>exact⟨0,_,rfl,rfl,hid (Nat.zero_le _),K2,I2⟩
 case round=>
  obtain⟨i,v,rfl,rfl,hi,HK,HI⟩:=hrel;obtain⟨vad,vc,hv⟩:=(ints_nums HI.out).shape;subst hv;obtain⟨vn,hvn⟩:∃ vn,vn = (Tt.names (L.take i)).length:=⟨_,rfl⟩;rw [← hvn] at HI ⊢;have HVN:=hid hvn;clear hvn
  by_cases hlt:i < ln
  ·have hiL:i < L.length:=by rw [← HLN.out]; exact hlt
   obtain⟨rfl,hg,hok,hrg⟩:=HC.out i hiL;have hlti:(i:Int) < (ln:Int):=by omega
   have hi0:¬ (i:Int) < 0:=by omega
   have HLD:=hid (run_loadVar_mid wr lg (lo + i * 97) 37 L[i].cells _ (rangeAt_kept HK.out hrg hg (Nat.ne_of_lt hg)) Tryz.underlying37 rfl (by have:=leafInfo (Lf.size hok); simpa using this))
   have HNX:=hid (show Tt.names (L.take (i + 1)) = if L[i].name == 0 then Tt.names (L.take i) else Tt.names (L.take i) ++ [L[i].name] by rw [List.take_succ_eq_append_getElem hiL,Tt.names_snoc])
   have HIB:=hid (isblank_calls L[i]);have hlsz:=Lf.size hok;have hlal:=L[i].all;have hD0:=L[i].at_name;obtain⟨D,hD⟩:∃ D,D = L[i].cells.toArray:=⟨_,rfl⟩;obtain⟨nm,hN⟩:∃ nm,nm = L[i].name:=⟨_,rfl⟩;rw [← hD,← hN] at HIB;rw [← hD] at HLD hlsz hlal;rw [← hD,← hN] at hD0;rw [← hN] at HNX;have HSZ:=hid hlsz;have HAL:=hid hlal;have HLT:=hid hlt;clear hlt hi hiL hg hok hrg hlsz hlal hD hN
   go_upto_region 4 with fail
   refine wp_region_lit ?_;refine @wQ _ _ _ _ _ _ _ ?_ ?_;kernel_rfl;intro K hK;go_simp;refine hK _ _ ?_;clear hK K;refine @wpList_load_known _ _ _ _ _ _ _ ?_ 37 (.tmp 12) rfl (lg) (lo + i * 97) rfl (.agg D) (HLD.out) ?_;kernel_rfl
   simp only [Act.put,sA,sB,sC];refine @wpL_alloc _ _ _ _ _ _ _ _ ?_ 37 rfl _ (alloc_leaf _) ?_;kernel_rfl
   simp only [Act.put,sA,sB,sC];refine wpList_store_row rfl 37 _ _ rfl (wr.heap.size) D rfl rfl 37 Lf.zero.cells.toArray (heap_new _ _) (leafInfo HSZ.out) (by rw [HSZ.out]; exact Lf.size Lf.zero_ok) (HAL.out) ?_
   simp only [Act.put];rw [World.setRow_alloc_new];have K4:=hid (HK.out.alloc HK.out.size (.cells D 37))
   have I4:=hid (HI.out.alloc (.cells D 37))
   have R4:=hid (heap_new wr (.cells D 37))
   obtain⟨lb,hlb⟩:∃ lb,lb = wr.heap.size:=⟨_,rfl⟩;rw [← hlb] at R4
   (try rw [← hlb])
   generalize wr.alloc (.cells D 37) = w4 at K4 I4 R4 ⊢
   clear hlb HLD HK HI
   by_cases hz:nm = 0
   ·have HZB:=hid (show(nm == 0) = true by rw [beq_iff_eq]; exact hz)
    rw [HZB.out] at HIB HNX;rw [if_pos rfl] at HNX;clear hz
    go_upto_region 5 with fail
    refine wp_region_lit ?_;refine @wpList_load_known _ _ _ _ _ _ _ ?_ 37 (.tmp 5) rfl (lb) (0) rfl (.agg D) (run_loadVar_row w4 lb 37 37 _ (0,0) _ R4.out Tryz.underlying37 rfl (leafInfo HSZ.out)) ?_;kernel_rfl
    simp only [Act.put,sA,sB,sC];refine @wQ _ _ _ _ _ _ _ ?_ ?_;kernel_rfl;intro K hK;go_simp;go_at_call 27
    refine(HIB.out _).mono ?_;rintro e w5 ⟨rfl,k5⟩;have K5:=hid (K4.out.next1 k5);have I5:=hid (I4.out.kept k5);have R5:=hid (rk R4.out k5);clear k5;refine hK _ _ ?_;clear hK K;refine @wQ _ _ _ _ _ _ _ ?_ ?_;kernel_rfl;intro K hK;go_simp;refine hK _ _ ?_;clear hK K;go_wp2
    go_roundw
    case rel=>exact⟨i + 1,_,rfl,by simp,hid HLT.out,K5,by rw [HNX.out]; exact I5⟩
    case measure=>have:=HLT.out; simp [RowKit.intOf]; omega
   ·have HZB:=hid (show(nm == 0) = false by rw [beq_eq_false_iff_ne]; exact hz)
    rw [HZB.out] at HIB HNX;rw [if_neg (by decide)] at HNX
    clear hz
    go_upto_region 5 with fail
    refine wp_region_lit ?_;refine @wpList_load_known _ _ _ _ _ _ _ ?_ 37 (.tmp 5) rfl (lb) (0) rfl (.agg D) (run_loadVar_row w4 lb 37 37 _ (0,0) _ R4.out Tryz.underlying37 rfl (leafInfo HSZ.out)) ?_;kernel_rfl
    simp only [Act.put,sA,sB,sC];refine @wQ _ _ _ _ _ _ _ ?_ ?_;kernel_rfl;intro K hK;go_simp;go_at_call 27
    refine(HIB.out _).mono ?_;rintro e w5 ⟨rfl,k5⟩;have K5:=hid (K4.out.next1 k5);have I5:=hid (I4.out.kept k5);have R5:=hid (rk R4.out k5);clear k5;refine hK _ _ ?_;clear hK K;refine @wQ _ _ _ _ _ _ _ ?_ ?_;kernel_rfl;intro K hK;go_simp;refine hK _ _ ?_;clear hK K
    go_upto_region 6 with fail
    have c0:w5.cell? ⟨lb,0,none⟩ = some (.int .i64 nm):=by rw [cell_of_row w5 lb 0 _ _ _ R5.out]; exact hD0
    have K6:=hid (K5.out.alloc K5.out.size (.cells #[.int .i64 nm] 3))
    have i6:=I5.out.alloc (.cells #[.int .i64 nm] 3)
    obtain⟨v7,w7,e7,i7,g7⟩:=append_int1 _ _ _ _ nm i6 w5.heap.size 1 (one_cellT (heap_new w5 (.cells #[.int .i64 nm] 3))) (by have:=HNL.out i; omega) K6.out.size
    have k7:=K6.out.grown g7 K6.out.size (fun k e=>(World.ownsRow.lt i6 k e).1)
    rw [← HNX.out] at i7;obtain⟨vad7,vc7,hv7⟩:=(ints_nums i7).shape;subst hv7;obtain⟨vn7,hvn7⟩:∃ vn7,vn7 = (Tt.names (L.take (i + 1))).length:=⟨_,rfl⟩;rw [← hvn7] at e7 i7;have E7:=hid e7;have I7:=hid i7;have K7:=hid k7;clear i6 e7 i7 g7 k7 hvn7;refine wp_region_lit ?_;iterate 4 (refine @wQ _ _ _ _ _ _ _ ?_ ?_;kernel_rfl;intro K hK;go_simp;refine hK _ _ ?_;clear hK K)
    refine wpList_append_known rfl (.tmp 17) (.tmp 20) 57 57 57 rfl rfl (.slice vad vn vc) (.slice (some ⟨w5.heap.size,0,none⟩) 1 1) rfl rfl E7.out ?_
    simp only [Act.put,sA,sB,sC];refine @wQ _ _ _ _ _ _ _ ?_ ?_;kernel_rfl;intro K hK;go_simp;refine hK _ _ ?_;clear hK K;clear c0;go_wp2
    go_roundw
    case rel=>exact⟨i + 1,_,rfl,by simp,hid HLT.out,K7,I7⟩
    case measure=>have:=HLT.out; simp [RowKit.intOf]; omega
  ·have hnl:¬ (i:Int) < (ln:Int):=by omega
   have HE:=hid (show i = ln by have:=hi.out; omega)
   clear hlt hi;have HSO:=hid (sort_ints wr w.heap.size (.slice vad vn vc) _ HI.out (by have:=HNL.out i; omega))
   go_upto_region 8 with fail
   refine wp_region_lit ?_;refine @wQ _ _ _ _ _ _ _ ?_ ?_;kernel_rfl;intro K hK;go_simp;refine hK _ _ ?_;clear hK K;refine @wQ _ _ _ _ _ _ _ ?_ ?_;kernel_rfl;intro K hK;go_simp;go_at_call 51
   refine(HSO.out).mono ?_;rintro e w9 ⟨rfl,i9,g9⟩;refine hK _ _ ?_;clear hK K;have I9:=hid i9;have K9:=hid (HK.out.grown g9 HK.out.size (fun k e=>(World.ownsRow.lt HI.out k e).1))
   clear i9 g9;go_wp2;go_ret;refine⟨_,rfl,?_,K9.out⟩;have:=I9.out;rw [HE.out,HLN.out,List.take_length] at this;exact this
theorem Tt.place_same {L:List Lf}{P:List Pr}(h:Tt.right L P = true)(y:Int):Tt.place L P y = Tt.rplace L y:=by
 have h2:=h;simp only [Tt.right,Bool.and_eq_true] at h2;have hnm:=Tt.leavesOk_names L [] h2.2.2.2.1;unfold Tt.place Tt.rplace;rw [h,Bool.and_true]
 by_cases h1:1≤y
 ·by_cases h3:y≤64
  ·rw [decide_eq_true h1,decide_eq_true h3,Bool.and_self,if_pos rfl,if_pos (by omega)]
  ·rw [decide_eq_false h3,Bool.and_false,if_neg (by decide),if_pos (by omega)]
   exact(Tt.index_none fun j hj e=>by
    have:=(hnm.2 y (Tt.names_mem.2 ⟨by omega,_,List.getElem_mem hj,e⟩)).2.1
    omega).symm
 ·rw [decide_eq_false h1,Bool.false_and,if_neg (by decide),if_neg (by omega)]
end Go.Proofs.YtaobiofngnfdiaaGreatDoor
