/-
 TreePuts; TreeRefPut; TreeInsert; TreeLoosen: several texts in one.
-/
import Derived.Test.YtaobiofngnfdiaaGreatDoorTreeAdd
import Derived.Test.YtaobiofngnfdiaaGreatDoorHB
import Derived.Test.YtaobiofngnfdiaaGreatDoorHA
import Derived.Test.YtaobiofngnfdiaaGreatDoorFindI
import Derived.Laws.NewBlocks
set_option maxRecDepth 100000
set_option maxHeartbeats 6400000
namespace Go.Proofs.YtaobiofngnfdiaaGreatDoor
open Go.RowKit Go.Lib
open List renaming setIfInBounds_toArray → sA, set_cons_zero → sB, set_cons_succ → sC
open BigFrame renaming wpList_want → wQ
def Bo.nodN:List Nat→Bool
 | []=>true
 | y :: D=>if Bo.memN D y then false else Bo.nodN D
def Bo.dn (n:Nat):Bool:=(List.range n).all fun a=>Bo.nodN ((Bo.ups n ((2 * a:Nat):Int)).map fun y=>y.toNat / 2)
theorem Bo.dn_all:((List.range 65).all Bo.dn) = true:=by decide +kernel
theorem Bo.dir_nodup {n a:Nat}(hn:n≤64)(ha:a < n):Bo.nodN ((Bo.Direct (n:Int) (a:Int)).map fun y=>y.toNat / 2) = true:=by
 rw [Bo.Direct,if_pos (Bo.leaf_of ha hn),show(2:Int) * (a:Int) = ((2 * a:Nat):Int) by omega]
 exact List.all_eq_true.1 (List.all_eq_true.1 Bo.dn_all n (List.mem_range.2 (by omega))) a (List.mem_range.2 ha)
namespace Tt
theorem loosen1_get (x:Nat)(P:List Pr)(y:Int)(j:Nat):(loosen1 x P y)[j]? = if y.toNat / 2 = j then P[j]?.map (loosened x) else P[j]?:=by
 unfold loosen1
 split
 ·rename_i p hp
  rw [List.getElem?_set]
  by_cases h:y.toNat / 2 = j
  ·rw [if_pos h,if_pos h,← h,hp,if_pos (List.getElem?_eq_some_iff.1 hp).1]
   rfl
  ·rw [if_neg h,if_neg h]
 ·rename_i hp
  by_cases h:y.toNat / 2 = j
  ·rw [if_pos h,← h,hp]
   rfl
  ·rw [if_neg h]
theorem loosens_get (x:Nat)(j:Nat):∀ (W:List Int) (P:List Pr),Bo.nodN (W.map fun y=>y.toNat / 2) = true→(loosens x W P)[j]? = if W.any (fun y=>y.toNat / 2 == j) = true then P[j]?.map (loosened x) else P[j]?
 | [],P,_=>by
  rw [List.any_nil,if_neg (by decide)]
  rfl
 | y :: W,P,h=>by
  rw [List.map_cons,Bo.nodN] at h
  split at h
  ·cases h
  ·rename_i hm
   show(loosens x W (loosen1 x P y))[j]? = _;rw [loosens_get x j W _ h,loosen1_get,List.any_cons]
   by_cases hj:y.toNat / 2 = j
   ·have ha:W.any (fun y=>y.toNat / 2 == j) = false:=by
     rw [Bo.memN_any,List.any_map,hj] at hm;exact Bool.eq_false_iff.2 hm
    rw [ha,if_neg (by decide),if_pos hj,show(y.toNat / 2 == j) = true by rw [beq_iff_eq]; exact hj,Bool.true_or,if_pos rfl]
   ·rw [if_neg hj,show(y.toNat / 2 == j) = false by rw [beq_eq_false_iff_ne]; exact hj,Bool.false_or]
def holdPut1 (n:Int)(x:Nat)(P:List Pr)(i:Nat):List Pr:=
 match P[i]? with
 | Option.some p=>if (p.set && Bo.Holds n ((2 * i + 1:Nat):Int) (x:Int)) = true then P.set i (loosened x p) else P
 | Option.none=>P
def holdPuts (n:Int)(x:Nat)(P:List Pr):Nat→List Pr
 | 0=>P
 | k + 1=>holdPut1 n x (holdPuts n x P k) k
theorem firstBlank_is:∀ (L:List Lf),firstBlank L < L.length→∃ l,L[firstBlank L]? = some l∧l.name = 0
 | [],h=>absurd h (Nat.not_lt_zero _)
 | l :: L,h=>by
  rw [firstBlank] at h ⊢
  by_cases h0:(l.name == 0) = true
  ·rw [if_pos h0]
   exact⟨l,rfl,beq_iff_eq.1 h0⟩
  ·rw [if_neg h0] at h ⊢
   rw [List.getElem?_cons_succ];exact firstBlank_is L (by rw [List.length_cons] at h; omega)
end Tt
section
variable {B:Nat→Prop} {w:World} {lv:Value} {g n c:Nat} {L:List Lf} {P:List Pr} {SL:List Value}
end
def putOut (l:List Int)(x:Int)(dn:Bool):List Int:=if dn then Tt.put l x else l
section
variable {w:World} {base:Nat} {T:TypeId} {g n cap:Nat} {xs:List Value}
theorem owns_whole (h:w.ownsRow base T 1 (.slice (some ⟨g,0,none⟩) n cap) n xs):∃ cur:List Value,cur.length = cap∧n≤cap∧cap≤maxLen∧base≤g∧w.heap[g]? = some (.cells cur.toArray T (0,0))∧cur.take n = xs∧w.ownsRow base T 1 (.slice (some ⟨g,0,none⟩) cap cap) cap cur:=by
 rcases h.2 with ⟨h',_⟩ | ⟨g',cap',cur,h',hb,hg,hn,hm,hs,ht⟩
 ·simp at h'
 ·simp only [Value.slice.injEq,Option.some.injEq,Addr.mk.injEq,and_true,true_and] at h'
  obtain⟨rfl,rfl⟩:=h';rw [Nat.mul_one] at hs ht;have hl:cur.toList.length = cap:=by rw [Array.length_toList]; exact hs
  refine⟨cur.toList,hl,hn,hm,hb,by rw [Array.toArray_toList]; exact hg,ht,⟨by rw [hl,Nat.mul_one],.inr ⟨g,cap,cur,rfl,hb,hg,Nat.le_refl _,hm,by rw [Nat.mul_one]; exact hs,by rw [Nat.mul_one]; exact List.take_of_length_le (Nat.le_of_eq hl)⟩⟩⟩
theorem owns_begin {cur:List Value}(h:w.ownsRow base T 1 (.slice (some ⟨g,0,none⟩) cap cap) cap cur)(m:Nat)(hm:m≤cap):w.ownsRow base T 1 (.slice (some ⟨g,0,none⟩) m cap) m (cur.take m):=by
 have hl:=h.1;rw [Nat.mul_one] at hl;refine⟨by rw [List.length_take,hl,Nat.mul_one]; omega,?_⟩
 rcases h.2 with ⟨h',_⟩ | ⟨g',cap',c,h',hb,hg,hn,hx,hs,ht⟩
 ·simp at h'
 ·simp only [Value.slice.injEq,Option.some.injEq,Addr.mk.injEq,and_true,true_and] at h'
  obtain⟨rfl,rfl⟩:=h';rw [Nat.mul_one] at hs ht;refine .inr ⟨g,cap,c,rfl,hb,hg,hm,hx,by rw [Nat.mul_one]; exact hs,?_⟩
  rw [Nat.mul_one,← ht,List.take_take,Nat.min_eq_left hm]
end
theorem put_mid (cur:List Value)(k n:Nat)(x:Value)(cs:List Value)(hk:k≤n)(hn:n + 1≤cur.length)(hcl:cs.length = n)(ht:cur.take k = cs.take k):
  (putList (putList cur (k + 1) (cs.drop k)) k [x]).take (n + 1) = cs.take k ++ x :: cs.drop k:=by
 have hdl:(cs.drop k).length = n - k:=by rw [List.length_drop,hcl]
 apply List.ext_getElem?;intro j;rw [List.getElem?_take]
 by_cases hj:j < n + 1
 ·rw [if_pos hj,putList_at _ _ _ _ (by rw [putList_length,List.length_singleton]; omega),List.length_singleton]
  by_cases h1:j < k
  ·rw [if_neg (by omega),putList_at _ _ _ _ (by rw [hdl]; omega),if_neg (by omega),List.getElem?_append_left (by rw [List.length_take]; omega),← ht,List.getElem?_take,if_pos h1]
  ·by_cases h2:j = k
   ·subst h2
    rw [if_pos (by omega),List.getElem?_append_right (by rw [List.length_take]; omega),List.length_take,show j - min j cs.length = 0 by omega,Nat.sub_self]
    rfl
   ·rw [if_neg (by omega),putList_at _ _ _ _ (by rw [hdl]; omega),if_pos (by rw [hdl]; omega),List.getElem?_append_right (by rw [List.length_take]; omega),List.length_take,show j - min k cs.length = (j - (k + 1)) + 1 by omega,List.getElem?_cons_succ]
 ·rw [if_neg hj,List.getElem?_eq_none (by simp only [List.length_append,List.length_cons,List.length_take,hdl]; omega)]
theorem put_mid2 (cur:List Value)(k n:Nat)(x:Value)(cs:List Value)(hk:k≤n)(hn:n + 1≤cur.length)(hcl:cs.length = n)(ht:cur.take k = cs.take k):
  (putList (putList cur k [x]) (k + 1) (cs.drop k)).take (n + 1) = cs.take k ++ x :: cs.drop k:=by
 rw [← put_mid cur k n x cs hk hn hcl ht]
 congr 1
 have hdl:(cs.drop k).length = n - k:=by rw [List.length_drop,hcl]
 apply List.ext_getElem?;intro j;rw [putList_at _ _ _ _ (by rw [putList_length,hdl]; omega),putList_at _ _ _ _ (by rw [List.length_singleton]; omega),putList_at _ _ _ _ (by rw [putList_length,List.length_singleton]; omega),putList_at _ _ _ _ (by rw [hdl]; omega),hdl,List.length_singleton]
 by_cases h1:j = k
 ·rw [if_neg (by omega),if_pos (by omega),if_pos (by omega)]
 ·rw [if_neg (c:=k≤j∧j < k + 1) (by omega),if_neg (c:=k≤j∧j < k + 1) (by omega)]
theorem drewGrew (w:World)(row:Option Nat):w.grownBy w.drew row:=⟨rfl,rfl,rfl,Nat.le_refl _,fun _ _ _=>rfl⟩
theorem grownBy_trans {w w1 w2:World}{row:Option Nat}(h:w.grownBy w1 row)(k:w1.grownBy w2 row):w.grownBy w2 row:=
 ⟨k.os.trans h.os,k.tape.trans h.tape,k.output.trans h.output,Nat.le_trans h.size k.size,fun i hi hn=>(k.block i (Nat.lt_of_lt_of_le hi h.size) hn).trans (h.block i hi hn)⟩
theorem zeroInts (m:Nat):(Builtin.zeroCells (Value.int .i64 0).cells m).size = m:=by simp [Builtin.zeroCells,Value.cells]
theorem frozen_none {w:World}{b k:Nat}{cs:Array Value}{t:TypeId}(h:w.heap[b]? = some (.cells cs t (0,0))):w.frozen? ⟨b,k,none⟩ = false:=by simp [World.frozen?,h]
theorem insert_calls (w:World)(v:Value)(l:List Int)(k:Nat)(x:Int)(vb:Nat)(hv:w.ownsRow 0 3 1 v l.length (l.map (Value.int .i64)))(hk:k≤l.length)(hx:w.heap[vb]? = some (.cells #[.int .i64 x] 3 (0,0)))(hne:v.ownBlock≠some vb)(hl:l.length≤1000):
  Calls Tryz.prog 57 #[v,.int .i64 (k:Int),.slice (some ⟨vb,0,none⟩) 1 1] w fun e w'=>∃ v',e = .returned v'∧w'.ownsRow 0 3 1 v' (l.length + 1) ((l.take k ++ x :: l.drop k).map (Value.int .i64))∧w.grownBy w' v.ownBlock∧(v'.ownBlock = v.ownBlock∨v'.ownBlock = some w.heap.size):=by
 obtain⟨cs,hcs⟩:∃ cs,cs = l.map (Value.int .i64):=⟨_,rfl⟩;obtain⟨n,hn⟩:∃ n,n = l.length:=⟨_,rfl⟩;have hcl:cs.length = n:=by rw [hcs,List.length_map,hn]
 have h1c:∀ v∈cs,v.oneCell' = true:=fun v hv=>by
  rw [hcs] at hv;obtain⟨y,_,rfl⟩:=List.mem_map.1 hv
  rfl
 have h1v:∀ v∈[Value.int .i64 x],v.oneCell' = true:=fun v hv=>by rw [List.mem_singleton.1 hv]; rfl
 have hvs:∀ (j:Nat) (v:Value),[Value.int .i64 x][j]? = some v→w.cell? ⟨vb,0 + j,none⟩ = some v:=fun j v hj=>by
  match j,hj with
  | 0,hj=>cases hj; simp [World.cell?,hx]
 have hres:(l.take k ++ x :: l.drop k).map (Value.int .i64) = cs.take k ++ Value.int .i64 x :: cs.drop k:=by rw [hcs,List.map_append,List.map_cons,List.map_take,List.map_drop]
 rw [← hcs,← hn] at hv;rw [← hn] at hk hl;rw [hres,← hn];have hbig:(n + 1) * 8≤140737488355328:=by omega
 have hmx:n + 1≤maxLen:=by unfold maxLen; omega
 clear hcs hres hn
 rcases hv.2 with ⟨rfl,hn0⟩ | ⟨g,cap,cur0,rfl,_,hgx,_,_,_,_⟩
 ·-- no number yet
  subst hn0;obtain rfl:k = 0:=by omega
  obtain rfl:cs = []:=List.length_eq_zero_iff.1 hcl;refine(Tryz.slices_Insert_int_end_grow none 0 0 vb 0 1 1 [] [.int .i64 x] w (by omega) (by omega) (by omega) (by omega) rfl rfl (fun _=>rfl) (fun a h=>nomatch h) hvs h1v).mono ?_
  rintro e w' ⟨rfl,rfl⟩;refine⟨_,rfl,⟨rfl,.inr ⟨w.heap.size,_,_,rfl,Nat.zero_le _,heap_new w.drew _,grownCap_ge _ _ _ _,grownCap_le_maxLen _ _ _ _ hmx,?_,?_⟩⟩,grownBy_trans (drewGrew w _) (World.grownBy_alloc _ _ _),.inr rfl⟩
  ·have:=grownCap_ge w (0 + 1) 0 3
   simp only [Array.size_append,zeroInts,List.size_toArray,List.length_append,List.length_nil,List.length_singleton]
   omega
  ·simp
 ·obtain⟨cur,hcu,hnc,hcm,_,hg,htk,hwh⟩:=owns_whole hv
  have hvg:vb≠g:=fun e=>hne (by rw [e]; rfl)
  have hcc:∀ (j:Nat) (v:Value),cs[j]? = some v→w.cell? ⟨g,0 + j,none⟩ = some v:=fun j v hj=>by
   have:=World.ownsRow.cells (g:=g) hv rfl j v hj
   rwa [Addr.add_lit] at this
  have hgl:g < w.heap.size:=lt_of_block hg
  by_cases hroom:n + 1≤cap
  ·have hsp:∀ j,j < cap→(w.cell? ⟨g,0 + j,none⟩).isSome = true:=fun j hj=>by
    simp [World.cell?,hg,hcu,hj]
   by_cases hkn:k < n
   ·refine(Tryz.slices_Insert_int_shift g 0 n cap k vb 0 1 1 cs [.int .i64 x] w hkn (by omega) hroom (by unfold maxLen at hcm; omega) hvg hcl rfl hcc (fun j hj=>hsp j (by omega)) (fun j _=>frozen_none hg) hvs h1c h1v _ _ _ _ (by simp [World.shape?,hx]; exact⟨rfl,rfl⟩) (by simp [World.shape?,hg]; exact⟨rfl,rfl⟩) (by omega) (frozen_none hx) (frozen_none hx)).mono ?_
    rintro e w' ⟨rfl,rfl⟩;rw [Nat.zero_add,Nat.zero_add];have hwd:=World.ownsRow.kept hwh (drewGrew w none) (.inr (by simp [Value.ownBlock]))
    obtain⟨a1,a2⟩:=owns_setCells (cs.drop k) (k + 1) _ _ hwd;obtain⟨b1,b2⟩:=owns_setCells [Value.int .i64 x] k _ _ a1;have c1:=owns_begin b1 (n + 1) hroom;rw [put_mid cur k n _ cs (by omega) (by omega) hcl (by rw [← htk,List.take_take,Nat.min_eq_left (by omega)])] at c1
    exact⟨_,rfl,c1,grownBy_trans (drewGrew w _) (grownBy_trans a2 b2),.inl rfl⟩
   ·obtain rfl:k = n:=by omega
    refine(Tryz.slices_Insert_int_end_room g 0 k cap vb 0 1 1 [.int .i64 x] w (by omega) hroom (by unfold maxLen at hcm; omega) rfl (fun j hj=>by rw [Nat.zero_add,← Nat.zero_add (k + j)]; exact hsp _ (by omega)) (fun j _=>frozen_none hg) hvs h1v).mono ?_
    rintro e w' ⟨rfl,rfl⟩;rw [Nat.zero_add];obtain⟨b1,b2⟩:=owns_setCells [Value.int .i64 x] k _ _ hwh;have c1:=owns_begin b1 (k + 1) hroom;have hpm:=put_mid cur k k (.int .i64 x) cs (by omega) (by omega) hcl (by rw [← htk,List.take_take,Nat.min_self])
    rw [List.drop_of_length_le (by omega),putList] at hpm
    rw [hpm] at c1;rw [List.drop_of_length_le (by omega)]
    exact⟨_,rfl,c1,b2,.inl rfl⟩
  ·by_cases hkn:k < n
   ·refine(Tryz.slices_Insert_int_grow g 0 n cap k vb 0 1 1 cs [.int .i64 x] w hkn (by omega) hnc (by omega) hbig hcl rfl hcc hvs h1c h1v).mono ?_
    rintro e w' ⟨rfl,rfl⟩;obtain⟨G,hG⟩:∃ G,G = grownCap w (n + 1) cap 3:=⟨_,rfl⟩
    have hG1:n + 1≤G:=by rw [hG]; exact grownCap_ge _ _ _ _
    have hG2:G≤maxLen:=by rw [hG]; exact grownCap_le_maxLen _ _ _ _ hmx
    rw [← hG];obtain⟨ROW,hROW⟩:∃ ROW:Array Value,ROW = (cs.take k).toArray ++ Builtin.zeroCells (Value.int .i64 0).cells (n + 1 - k) ++ Builtin.zeroCells (Value.int .i64 0).cells (G - (n + 1)):=⟨_,rfl⟩
    have hRs:ROW.size = G * 1:=by
     rw [hROW];simp only [Array.size_append,zeroInts,List.size_toArray,List.length_take]
     omega
    have hRt:ROW.toList.take k = cs.take k:=by
     rw [hROW,Array.append_assoc,Array.toList_append,List.take_append_of_le_length (by rw [List.length_take]; omega)]
     simp [List.take_take]
    rw [← hROW];have a0:=World.ownsRow_lit (base:=0) (e:=3) w ROW G (Nat.zero_le _) hG2 hRs
    have a1:=World.ownsRow.kept a0 (drewGrew _ none) (.inr (by simp [Value.ownBlock]))
    obtain⟨b1,b2⟩:=owns_setCells [Value.int .i64 x] k _ _ a1;have c1:=World.ownsRow.kept b1 (drewGrew _ none) (.inr (by simp [Value.ownBlock]))
    obtain⟨d1,d2⟩:=owns_setCells (cs.drop k) (k + 1) _ _ c1;have e1:=owns_begin d1 (n + 1) hG1;rw [put_mid2 ROW.toList k n _ cs (by omega) (by rw [Array.length_toList,hRs]; omega) hcl hRt] at e1
    refine⟨_,rfl,e1,?_,.inr rfl⟩;have g0:=grownBy_trans (World.grownBy_alloc w (.cells ROW 3) (some w.heap.size)) (grownBy_trans (drewGrew _ _) (grownBy_trans b2 (grownBy_trans (drewGrew _ _) d2)))
    exact⟨g0.os,g0.tape,g0.output,g0.size,fun i hi _=>g0.block i hi (fun e=>by have:=Option.some.inj e; omega)⟩
   ·obtain rfl:k = n:=by omega
    refine(Tryz.slices_Insert_int_end_grow (some ⟨g,0,none⟩) k cap vb 0 1 1 cs [.int .i64 x] w (by omega) hnc (by omega) hbig hcl rfl (fun h=>nomatch h) (fun a h j v hj=>by
     cases h
     rw [Addr.add_lit]
     exact hcc j v hj) hvs h1v).mono ?_
    rintro e w' ⟨rfl,rfl⟩;rw [List.drop_of_length_le (by omega),List.take_of_length_le (by omega)]
    refine⟨_,rfl,⟨by rw [List.length_append,hcl,Nat.mul_one]; rfl,.inr ⟨w.heap.size,_,_,rfl,Nat.zero_le _,heap_new w.drew _,grownCap_ge _ _ _ _,grownCap_le_maxLen _ _ _ _ hmx,?_,?_⟩⟩,grownBy_trans (drewGrew w _) (World.grownBy_alloc _ _ _),.inr rfl⟩
    ·have:=grownCap_ge w (k + 1) cap 3
     simp only [Array.size_append,zeroInts,List.size_toArray,List.length_append,List.length_singleton,hcl]
     omega
    ·rw [Array.toList_append,List.take_append_of_le_length (by rw [List.length_append,hcl,Nat.mul_one]; exact Nat.le_refl _)]
     exact List.take_of_length_le (by rw [List.length_append,hcl,Nat.mul_one]; exact Nat.le_refl _)
theorem count_put:∀ (l:List Int) (x:Int),l.Pairwise (·≤·)→l.take (l.countP (· < x)) ++ x :: l.drop (l.countP (· < x)) = Tt.put l x
 | [],_,_=>rfl
 | y :: t,x,h=>by
  rw [List.pairwise_cons] at h;have ih:=count_put t x h.2
  have hz:¬ y < x→t.countP (· < x) = 0:=fun hy=>List.countP_eq_zero.2 (fun z hz=>by
   have:=h.1 z hz;simp only [decide_eq_true_eq]
   omega)
  rw [List.countP_cons,Tt.put]
  by_cases h1:y < x
  ·rw [if_pos (decide_eq_true h1),if_neg (by omega),List.take_succ_cons,List.drop_succ_cons,List.cons_append,ih]
  ·have h0:=hz h1
   rw [h0,List.take_zero,List.drop_zero,List.nil_append] at ih;rw [if_neg (by simpa using h1),h0,Nat.add_zero,List.take_zero,List.drop_zero,List.nil_append]
   by_cases h2:x < y
   ·rw [if_pos h2]
   ·rw [if_neg h2,← ih,show y = x by omega]
theorem put_length:∀ (l:List Int) (x:Int),(Tt.put l x).length = l.length + 1
 | [],_=>rfl
 | y :: t,x=>by
  rw [Tt.put]
  split
  ·rfl
  ·rw [List.length_cons,put_length t x,List.length_cons]
theorem put_mem:∀ (l:List Int) (x z:Int),z∈Tt.put l x→z = x∨z∈l
 | [],_,_,h=>.inl (List.mem_singleton.1 h)
 | y :: t,x,z,h=>by
  rw [Tt.put] at h
  split at h
  ·rcases List.mem_cons.1 h with h | h
   ·exact .inl h
   ·exact .inr h
  ·rcases List.mem_cons.1 h with h | h
   ·exact .inr (h ▸ List.mem_cons_self)
   ·rcases put_mem t x z h with h | h
    ·exact .inl h
    ·exact .inr (List.mem_cons_of_mem _ h)
theorem put_rises:∀ (l:List Int) (x:Int),l.Pairwise (·≤·)→(Tt.put l x).Pairwise (·≤·)
 | [],_,_=>List.pairwise_singleton _ _
 | y :: t,x,h=>by
  have h0:=List.pairwise_cons.1 h;rw [Tt.put]
  split
  ·rename_i hx
   refine List.pairwise_cons.2 ⟨fun z hz=>?_,h⟩
   rcases List.mem_cons.1 hz with e | e
   ·omega
   ·have:=h0.1 z e; omega
  ·refine List.pairwise_cons.2 ⟨fun z hz=>?_,put_rises t x h0.2⟩
   rcases put_mem t x z hz with e | e
   ·omega
   ·exact h0.1 z e
theorem bsearch_calls (w:World)(v:Value)(l:List Int)(x:Int)(hv:Ints w 0 v l)(hs:l.Pairwise (·≤·))(hl:l.length≤1000):
  Calls Tryz.prog 56 #[v,.int .i64 x] w fun e w'=>∃ b,e = .returned (.tuple #[.int .i64 ((l.countP (· < x):Nat):Int),.bool b])∧Kept w.heap.size w.heap.size w w':=by
 have hk:∀ q,Kept w.heap.size w.heap.size w (w.drewN q):=fun q=>⟨rfl,rfl,rfl,Nat.le_refl _,fun _ _ _=>rfl⟩
 have h0:=hv
 rcases hv.2 with ⟨rfl,hn⟩ | ⟨g,cap,cur,rfl,_,_,_⟩
 ·obtain rfl:=List.length_eq_zero_iff.1 hn
  refine(Tryz.slices_BinarySearch_int_empty none 0 x w).mono ?_;rintro e w' ⟨rfl,rfl⟩;exact⟨_,rfl,Kept.refl _ _ _⟩
 ·refine(Tryz.slices_BinarySearch_int g 0 l.length cap l x w (Nat.le_refl _) (by omega) (fun j hj=>?_) (by rw [List.take_length]; exact hs)).mono ?_
  ·have h2:=World.ownsRow.cells (g:=g) h0 rfl j (.int .i64 l[j]) (by rw [List.getElem?_map,List.getElem?_eq_getElem hj]; rfl)
   rw [Addr.add_lit] at h2;rw [h2,List.getD_eq_getElem?_getD,List.getElem?_eq_getElem hj]
   rfl
  ·rintro e w' ⟨rfl,q,rfl⟩
   rw [List.take_length];exact⟨_,rfl,hk q⟩
section
variable {B:Nat→Prop} {w w1:World} {lv:Value} {g n cap:Nat} {L:List Lf} {P:List Pr} {SL:List Value}
theorem Mine.loose (h:Mine B w lv (.slice (some ⟨g,0,none⟩) n cap) L P SL)(i:Nat)(hi:i < P.length)(hq:i < SL.length)(s:Value)(l:List Int)(gr:w.grownBy w1 SL[i].ownBlock)(hs:Ints w1 0 s l)(ho:s.ownBlock = SL[i].ownBlock∨∀ k,s.ownBlock = some k→w.heap.size≤k):
  Mine B (w1.setCell ⟨g,i * 66 + 65,none⟩ s) lv (.slice (some ⟨g,0,none⟩) n cap) L (P.set i { P[i] with loose:=l }) (SL.set i s)∧w1.grownBy (w1.setCell ⟨g,i * 66 + 65,none⟩ s) (some g):=by
 obtain⟨sad,sn,sc,rfl⟩:=one_slice hs;obtain⟨p,hp⟩:∃ p,p = P[i]:=⟨_,rfl⟩;obtain⟨t0,ht0⟩:∃ t0,t0 = SL[i]:=⟨_,rfl⟩;rw [← ht0] at gr ho;have ht0m:SL[i]? = some t0:=by rw [ht0]; exact List.getElem?_eq_getElem hq
 have ht0i:t0∈SL:=List.mem_of_getElem? ht0m;have hpok:p.Ok:=by rw [hp]; exact h.pok _ (List.getElem_mem hi)
 have hzl:=zip_len h;have gs:=grown_set w1 g (i * 66 + 65) (.slice sad sn sc);have hgw:g < w.heap.size:=(h.po.2.lt g rfl).2
 have hsw:∀ k,(Value.slice sad sn sc).ownBlock = some k→w.heap.size≤k∨(t0.ownBlock = some k∧k < w.heap.size):=fun k hk=>by
  rcases ho with e | e
  ·rw [e] at hk
   have hk2:=World.ownsRow.lt (h.so i p t0 (by rw [hp]; exact List.getElem?_eq_getElem hi) ht0m) k hk
   exact .inr ⟨hk,hk2.2⟩
  ·exact .inl (e k hk)
 have hdif:∀ a:Option Nat,(∀ k,a = some k→k < w.heap.size)→Dif a t0.ownBlock→Dif a (Value.slice sad sn sc).ownBlock:=fun a ha hd=>by
  cases a with
  | none=>exact .inl rfl
  | some a=>
   refine .inr fun e=>?_
   rcases hsw a e.symm with e2 | ⟨e2,_⟩
   ·have:=ha a rfl; omega
   ·exact hd.elim (fun e=>nomatch e) (fun e3=>e3 e2.symm)
 have hgn:(Value.slice sad sn sc).ownBlock = none∨(Value.slice sad sn sc).ownBlock≠some g:=by
  refine .inr fun e=>?_
  rcases hsw g e with e2 | ⟨e2,_⟩
  ·omega
  ·exact(h.dps t0 ht0i).elim (fun e=>nomatch e) (fun e3=>e3 e2.symm)
 have hne:∀ x:Value,Dif (some g) x.ownBlock→x.ownBlock = none∨x.ownBlock≠some g:=fun x hx=>.inr fun e=>hx.elim (fun e2=>nomatch e2) (fun e2=>e2 e.symm)
 have po1:=h.po.grown gr (h.dps t0 ht0i);rw [← hzl] at hi;obtain⟨ad,g2,c2,hv2,hc2,_⟩:=po1.at;have hnn:n = (List.zipWith Pr.cells P SL).length:=by injection hv2
 subst hnn;obtain⟨q1,q2,_⟩:=OwnC.part po1 i hi 65 [.slice sad sn sc] (by simp) (fun y hy=>by rw [List.mem_singleton.1 hy]; rfl)
 have hrow:putList (List.zipWith Pr.cells P SL)[i] 65 [.slice sad sn sc] = Pr.cells { p with loose:=l } (.slice sad sn sc):=by
  rw [List.getElem_zipWith,← hp];exact pr_set hpok _ _
 rw [hrow,← zip_set] at q1;rw [hzl] at hi;refine⟨?_,gs⟩
 have hlt:∀ (j:Nat) (t:Value),SL[j]? = some t→∀ k,t.ownBlock = some k→k < w.heap.size:=fun j t ht k e=>by
  have hj:j < P.length:=by rw [← h.len]; exact(List.getElem?_eq_some_iff.1 ht).1
  exact(World.ownsRow.lt (h.so j _ t (List.getElem?_eq_getElem hj) ht) k e).2
 rw [← hp]
 exact { h with
  pok:=fun x hx=>(List.mem_or_eq_of_mem_set hx).elim (h.pok x) (fun e=>e ▸ hpok)
  lo:=(h.lo.grown gr (h.dls t0 ht0i)).grown gs (hne lv h.dlp.symm)
  len:=by rw [List.length_set,List.length_set,h.len]
  po:=q1
  so:=fun j q t hqq ht=>by
   by_cases hj:i = j
   ·subst hj
    rw [List.getElem?_set_self hi] at hqq;rw [List.getElem?_set_self hq] at ht
    cases hqq
    cases ht
    exact World.ownsRow.kept hs gs hgn
   ·rw [List.getElem?_set_ne hj] at hqq ht
    exact World.ownsRow.kept (World.ownsRow.kept (h.so j q t hqq ht) gr (h.dss j i t t0 (fun e=>hj e.symm) ht ht0m)) gs (hne t (h.dps t (List.mem_of_getElem? ht)))
  dls:=fun t ht=>(List.mem_or_eq_of_mem_set ht).elim (h.dls t) (fun e=>by rw [e]; exact hdif _ (fun k hk=>(h.lo.2.lt k hk).2) (h.dls t0 ht0i))
  dps:=fun t ht=>(List.mem_or_eq_of_mem_set ht).elim (h.dps t) (fun e=>by rw [e]; exact hdif _ (fun k hk=>(h.po.2.lt k hk).2) (h.dps t0 ht0i))
  dss:=fun a b x y hab hx hy=>by
   by_cases ha:i = a
   ·subst ha
    rw [List.getElem?_set_self hq] at hx;rw [List.getElem?_set_ne hab] at hy
    cases hx
    exact(hdif _ (hlt b y hy) (h.dss b i y t0 (fun e=>hab e.symm) hy ht0m)).symm
   ·rw [List.getElem?_set_ne ha] at hx
    by_cases hb2:i = b
    ·subst hb2
     rw [List.getElem?_set_self hq] at hy
     cases hy
     exact hdif _ (hlt a x hx) (h.dss a i x t0 hab hx ht0m)
    ·rw [List.getElem?_set_ne hb2] at hy
     exact h.dss a b x y hab hx hy
  os:=fun t ht=>(List.mem_or_eq_of_mem_set ht).elim (h.os t) (fun e k hk b=>by
   rw [e] at hk
   rcases hsw k hk with e2 | ⟨e2,_⟩
   ·have:=h.bnd k b; omega
   ·exact h.os t0 ht0i k e2 b)
  bnd:=fun k hk=>Nat.lt_of_lt_of_le (h.bnd k hk) (Nat.le_trans gr.size gs.size) }
end
theorem loosen_any (place:Nat):LoosenK place (fun j p=>66≤j∨(p.loose.Pairwise (·≤·)∧p.loose.length≤64 + j)):=by
 intro j hj66 B w lv g n cap L P SL h i hi hs;have hq:i < SL.length:=by rw [h.len]; exact hi
 have hzl:=zip_len h;obtain⟨hsort,hlen⟩:P[i].loose.Pairwise (·≤·)∧P[i].loose.length≤64 + j:=(hs P[i] (List.getElem_mem hi)).resolve_left (by omega)
 have hint:=h.so i P[i] SL[i] (List.getElem?_eq_getElem hi) (List.getElem?_eq_getElem hq);have hpok:=h.pok P[i] (List.getElem_mem hi);obtain⟨ad,g2,c2,hv,h1,_⟩:=h.po.at;obtain⟨ha,_,hg,hr⟩:=h1 i (by rw [hzl]; exact hi)
 subst ha;injection hv with hv hva hvb
 clear hva hvb;injection hv with hv
 injection hv with hv hva hvb
 clear hva hvb;subst hv;rw [List.getElem_zipWith,Nat.zero_add] at hr;have hc:=hr 0 (.bool P[i].set) rfl;rw [Nat.add_zero] at hc;have hc65:=hr 65 SL[i] (by simp [Pr.cells,bcells_length,hpok.1,hpok.2])
 have hlse:∀ s':Value,Ints w 0 s' P[i].loose→s' = SL[i]→True:=fun _ _ _=>trivial
 clear hr h1 hlse;obtain⟨st,hst⟩:∃ st,st = P[i].set:=⟨_,rfl⟩;rw [← hst] at hc
 cases st with
 | false=>
  have he:P.set i (Tt.loosened place P[i]) = P:=by
   rw [show Tt.loosened place P[i] = P[i] by unfold Tt.loosened; rw [← hst]; rfl,List.set_getElem_self]
  have HM:=hid h;rw [he];generalize i * 66 = k at hc hc65 ⊢;clear h hs hzl he hg hi hq hsort hlen hint hpok hst hc65 hj66
  go_enter Tryz.func35,Tryz.ntmps35
  go_wp2;refine bodyPost_ret (results_none rfl _ _ _) rfl ?_;exact⟨rfl,Frm.refl _ _,SL,HM.out⟩
 | true=>
  have he:P.set i (Tt.loosened place P[i]) = P.set i { P[i] with loose:=Tt.put P[i].loose (place:Int) }:=by
   rw [show Tt.loosened place P[i] = { P[i] with loose:=Tt.put P[i].loose (place:Int) } by unfold Tt.loosened; rw [if_pos hst.symm]]
  rw [he];have HS:=hid (fun(s:Value) (l:List Int) (u u1:World) (m:Mine B u lv (.slice (some ⟨g,0,none⟩) n cap) L P SL) (gr:u.grownBy u1 SL[i].ownBlock) (hs:Ints u1 0 s l) (ho:s.ownBlock = SL[i].ownBlock∨∀ k,s.ownBlock = some k→u.heap.size≤k)=>Mine.loose m i hi hq s l gr hs ho)
  have HOS:=hid (fun k (e:SL[i].ownBlock = some k)=>h.os SL[i] (List.getElem_mem hq) k e)
  have HOP:=hid (h.op g rfl);have HDP:=hid (h.dps SL[i] (List.getElem_mem hq));have HM:=hid h;have HI:=hid hint;have hpw:=h.po
  obtain⟨cur,hcur,hcsz⟩:∃ cur:List Value,w.heap[g]? = some (.cells cur.toArray 67 (0,0))∧i * 66 + 65 < cur.length:=by
   rcases hpw.2.2 with ⟨h',_⟩ | ⟨g',cap',c,h',_,hgx,hnc,_,hsz,_⟩
   ·simp at h'
   ·injection h' with hx1 hx2 hx3
    injection hx1 with hx1
    injection hx1 with hx1 _ _
    subst hx1;refine⟨c.toList,by rw [Array.toArray_toList]; exact hgx,?_⟩
    rw [Array.length_toList,hsz];rw [hzl] at hnc;have:=Nat.mul_le_mul_right 66 (Nat.le_trans hi hnc);rw [Nat.succ_mul] at this
    omega
  have HCU:=hid hcur;have HCS:=hid hcsz;obtain⟨l,hl⟩:∃ l,l = P[i].loose:=⟨_,rfl⟩;obtain⟨s,hsv⟩:∃ s,s = SL[i]:=⟨_,rfl⟩;rw [← hl] at hsort hlen HI ⊢;rw [← hsv] at hc65 HOS HDP HI HS;have HBS:=hid (fun(u:World) (k:Kept w.heap.size w.heap.size w u)=>bsearch_calls u s l (place:Int) (HI.out.kept k) hsort (by omega))
  have HPU:=hid (count_put l (place:Int) hsort);have HCL:=hid (List.countP_le_length (p:=fun y:Int=>decide (y < (place:Int))) (l:=l))
  have HLN:=hid (show l.length≤1000 by omega)
  obtain⟨kc,hkc⟩:∃ kc,kc = l.countP (· < (place:Int)):=⟨_,rfl⟩
  rw [← hkc] at HBS HPU HCL;obtain⟨P9,hP9⟩:∃ P9,P9 = P.set i { P[i] with loose:=Tt.put l (place:Int) }:=⟨_,rfl⟩
  rw [← hP9];have HP9:=hid hP9;obtain⟨sad,sn,sc,rfl⟩:=one_slice HI.out;obtain⟨kk,hkk⟩:∃ kk,kk = i * 66:=⟨_,rfl⟩;rw [← hkk] at hc hc65 HCS HS ⊢;have HGW:=hid hg;clear h hs hzl he hsort hlen hint hpok hst hj66 hpw hcur hcsz hl hsv hkc hP9 hkk hg;have C65:=hid hc65
  go_enter Tryz.func35,Tryz.ntmps35
  go_upto_region 1 with fail
  refine wp_region_lit ?_;iterate 5 (refine @wQ _ _ _ _ _ _ _ ?_ ?_;kernel_rfl;intro K hK;go_simp;refine hK _ _ ?_;clear hK K)
  refine @wQ _ _ _ _ _ _ _ ?_ ?_;kernel_rfl;intro K hK;go_simp;go_at_call 56
  refine(HBS.out w (Kept.refl _ _ _)).mono ?_;rintro e w2 ⟨bb,rfl,k2⟩;have K2:=hid k2;clear k2;refine hK _ _ ?_;clear hK K;iterate 5 (refine @wQ _ _ _ _ _ _ _ ?_ ?_;kernel_rfl;intro K hK;go_simp;refine hK _ _ ?_;clear hK K)
  clear hc hc65;have c65:=(K2.out.cell (p:=⟨g,kk + 65,none⟩) HGW.out (Nat.ne_of_lt HGW.out)).trans C65.out;have ka:=kA w2 (.cells #[.int .i64 (place:Int)] 3)
  have M3:=hid ((HM.out.kept K2.out).kept ka);have K3:=hid (K2.out.next1 ka);have i3:=(HI.out.kept K2.out).kept ka;have HCU3:=hid ((K3.out.block g (lt_of_block HCU.out) (Nat.ne_of_lt (lt_of_block HCU.out))).trans HCU.out);have HIN:=hid (insert_calls _ _ l kc (place:Int) w2.heap.size i3 HCL.out (heap_new w2 _) (fun e=>by have:=(World.ownsRow.lt (HI.out.kept K2.out) _ e).2; omega) HLN.out)
  clear ka i3
  go_upto_region 2 with fail
  refine wp_region_lit ?_;iterate 8 (refine @wQ _ _ _ _ _ _ _ ?_ ?_;kernel_rfl;intro K hK;go_simp;refine hK _ _ ?_;clear hK K)
  clear c65;refine @wQ _ _ _ _ _ _ _ ?_ ?_;kernel_rfl;intro K hK;go_simp;go_at_call 57
  refine(HIN.out).mono ?_;rintro e w4 ⟨v4,rfl,i4,g4,o4⟩;refine hK _ _ ?_;clear hK K;rw [HPU.out] at i4
  have i4':Ints w4 0 v4 (Tt.put l (place:Int)):=by
   unfold Ints;rw [put_length];exact i4
  obtain⟨vad,vn,vc,rfl⟩:=one_slice i4';obtain⟨m5,g5⟩:=HS.out _ _ _ w4 M3.out g4 i4' (o4.imp (fun e=>e) (fun e k hk=>by rw [hk] at e; exact Nat.le_of_eq (Option.some.inj e).symm))
  rw [← HP9.out] at m5;have hcu4:=(g4.block g (lt_of_block HCU3.out) (fun e=>HDP.out.elim (fun e2=>nomatch e2) (fun e2=>e2 e))).trans HCU3.out
  have f4:=(K3.out.fr (B:=B)).trans (grown_fr (B:=B) g4 (fun k e b=>HOS.out k e b))
  have f5:=f4.trans (grown_fr (B:=B) g5 (fun k e b=>HOP.out (Option.some.inj e ▸ b)))
  have M5:=hid m5;have F5:=hid f5;have HCU4:=hid hcu4;clear i4 i4' m5 g5 g4 o4 hcu4 f4 f5 HIN;iterate 2 (refine @wQ _ _ _ _ _ _ _ ?_ ?_;kernel_rfl;intro K hK;go_simp;refine hK _ _ ?_;clear hK K)
  refine @wpL_store_part _ _ _ _ _ _ _ ?_ 57 _ _ rfl g (kk + 65) cur 67 (.slice vad vn vc) rfl rfl HCU4.out HCS.out rfl (by kernel_rfl) ?_;kernel_rfl
  simp only [Act.put];generalize w4.setCell ⟨g,kk + 65,none⟩ (.slice vad vn vc) = w5 at M5 F5 ⊢;go_wp2;refine bodyPost_end (results_none rfl _ _ _) rfl ?_;exact⟨rfl,F5.out,_,M5.out⟩
end Go.Proofs.YtaobiofngnfdiaaGreatDoor
