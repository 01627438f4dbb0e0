/-
 TreeGood; TreeGoodAdd: several texts in one.
-/
import Derived.Test.YtinebhdilnndaaaGreatDoorTreeJoin
import Derived.Test.YtinebhdilnndaaaGreatDoorHL
import Derived.Test.YtinebhdilnndaaaGreatDoorHB
import Derived.Test.YtinebhdilnndaaaGreatDoorTreeAddJoin
namespace Go.Proofs.YtinebhdilnndaaaGreatDoor
open Go.RowKit Go.Lib
open List renaming setIfInBounds_toArray -> sA, set_cons_zero -> sB, set_cons_succ -> sC
open BigFrame renaming wpList_want -> wQ
def Bo.cut (n:Nat):Bool:=(List.range (n - 1)).all λi=>let D:=Bo.part n (2 * i + 1); let E:=Bo.part 64 (2 * i + 1); Nat.beq D.1 E.1 && Nat.beq (D.1 + D.2.1) (min n (E.1 + E.2.1))
theorem Bo.cut_all:((List.range 65).all Bo.cut) = true:=by decide +kernel
theorem Bo.cut_of {n i:Nat}(hn:n<=64)(hi:i < n - 1):Bo.First (n:Int) ((2 * i + 1:Nat):Int) = Bo.First 64 ((2 * i + 1:Nat):Int)/\Bo.Behind (n:Int) ((2 * i + 1:Nat):Int) = min (n:Int) (Bo.Behind 64 ((2 * i + 1:Nat):Int)):=by
 have h:=List.all_eq_true.1 (List.all_eq_true.1 Bo.cut_all n (List.mem_range.2 (by omega))) i (List.mem_range.2 hi)
 rw [Bool.and_eq_true] at h;have hA:=Nat.eq_of_beq_eq_true h.1;have hB:=Nat.eq_of_beq_eq_true h.2;have hin:Bo.In 0 n (2 * i + 1):=⟨by omega,by omega,by omega⟩
 have hin64:Bo.In 0 64 (2 * i + 1):=⟨by omega,by omega,by omega⟩
 obtain⟨_,_,e3,e4⟩:=Bo.say hin hn (p:=(Bo.part n (2 * i + 1)).2.2.1) (b:=(Bo.part n (2 * i + 1)).2.2.2) (a:=(Bo.part n (2 * i + 1)).1) (m:=(Bo.part n (2 * i + 1)).2.1) rfl;obtain⟨_,_,f3,f4⟩:=Bo.say hin64 (Nat.le_refl 64) (p:=(Bo.part 64 (2 * i + 1)).2.2.1) (b:=(Bo.part 64 (2 * i + 1)).2.2.2) (a:=(Bo.part 64 (2 * i + 1)).1) (m:=(Bo.part 64 (2 * i + 1)).2.1) rfl;have f3':Bo.First 64 ((2 * i + 1:Nat):Int) = _:=f3;have f4':Bo.Behind 64 ((2 * i + 1:Nat):Int) = _:=f4;rw [e3,e4,f3',f4'];exact⟨by rw [hA],by omega⟩
namespace Tt
theorem parentsOk_iff (L:List Lf):∀ (P:List Pr) (i:Nat),parentsOk L i P = true↔∀ j (hj:j < P.length),parentOk L (i + j) P[j] = true
 | [],_=>⟨λ_ j hj=>absurd hj (Nat.not_lt_zero _),λ_=>rfl⟩
 | p :: P,i=>by
  rw [parentsOk,Bool.and_eq_true,parentsOk_iff L P (i + 1)]
  constructor
  ·rintro ⟨h1,h2⟩ j hj
   cases j with
   | zero=>exact h1
   | succ j=>
    have h3:=h2 j (Nat.lt_of_succ_lt_succ hj);rw [show i + (j + 1) = i + 1 + j by omega]
    exact h3
  ·intro h
   refine⟨h 0 (Nat.succ_pos _),λj hj=>?_⟩
   have h3:=h (j + 1) (Nat.succ_lt_succ hj);rw [show i + 1 + j = i + (j + 1) by omega]
   exact h3
theorem leavesOk_iff:∀ (L:List Lf) (M:List Int),leavesOk M L = true↔∀ i (hi:i < L.length),L[i] = Lf.zero\/(1<=L[i].name/\L[i].name<=64/\L[i].name∉M/\∀ j (hj:j < i),(L[j]'(Nat.lt_trans hj hi)).name≠L[i].name)
 | [],_=>⟨λ_ i hi=>absurd hi (Nat.not_lt_zero _),λ_=>rfl⟩
 | l :: L,M=>by
  rw [leavesOk]
  by_cases hz:l.same Lf.zero = true
  ·rw [if_pos hz,leavesOk_iff L M]
   have hlz:=Lf.same_iff.1 hz
   constructor
   ·intro h i hi
    cases i with
    | zero=>exact .inl hlz
    | succ i=>
     rcases h i (Nat.lt_of_succ_lt_succ hi) with h1 | ⟨h1,h2,h3,h4⟩
     ·exact .inl h1
     ·refine .inr ⟨h1,h2,h3,λj hj=>?_⟩
      cases j with
      | zero=>
       show l.name≠(L[i]'(Nat.lt_of_succ_lt_succ hi)).name;have h5:l.name = 0:=by rw [hlz]; rfl
       omega
      | succ j=>exact h4 j (Nat.lt_of_succ_lt_succ hj)
   ·intro h i hi
    rcases h (i + 1) (Nat.succ_lt_succ hi) with h1 | ⟨h1,h2,h3,h4⟩
    ·exact .inl h1
    ·exact .inr ⟨h1,h2,h3,λj hj=>h4 (j + 1) (Nat.succ_lt_succ hj)⟩
  ·rw [if_neg hz]
   have hlz:l≠Lf.zero:=λe=>hz (Lf.same_iff.2 e)
   have hcm:(!M.contains l.name) = true↔l.name∉M:=by simp
   rw [Bool.and_eq_true,Bool.and_eq_true,Bool.and_eq_true,decide_eq_true_eq,decide_eq_true_eq,hcm,leavesOk_iff L (l.name :: M)]
   constructor
   ·rintro ⟨g1,g2,g3,g4⟩ i hi
    cases i with
    | zero=>exact .inr ⟨g1,g2,g3,λj hj=>absurd hj (Nat.not_lt_zero _)⟩
    | succ i=>
     rcases g4 i (Nat.lt_of_succ_lt_succ hi) with h1 | ⟨h1,h2,h3,h4⟩
     ·exact .inl h1
     ·rw [List.mem_cons,not_or] at h3
      refine .inr ⟨h1,h2,h3.2,λj hj=>?_⟩
      cases j with
      | zero=>exact λe=>h3.1 e.symm
      | succ j=>exact h4 j (Nat.lt_of_succ_lt_succ hj)
   ·intro h
    have g0:=(h 0 (Nat.succ_pos _)).resolve_left hlz;refine⟨g0.1,g0.2.1,g0.2.2.1,λi hi=>?_⟩
    rcases h (i + 1) (Nat.succ_lt_succ hi) with h1 | ⟨h1,h2,h3,h4⟩
    ·exact .inl h1
    ·refine .inr ⟨h1,h2,?_,λj hj=>h4 (j + 1) (Nat.succ_lt_succ hj)⟩
     rw [List.mem_cons,not_or];exact⟨λe=>h4 0 (Nat.succ_pos _) e.symm,h3⟩
theorem right_iff (L:List Lf)(P:List Pr):right L P = true↔L.length<=64/\P.length = L.length - 1/\lastBlank L = false/\leavesOk [] L = true/\parentsOk L 0 P = true:=by
 simp only [right,Bool.and_eq_true,decide_eq_true_eq,Bool.not_eq_true']
theorem nameAt_get {L:List Lf}{k:Nat}(h:k < L.length):nameAt L (k:Int) = L[k].name:=by
 unfold nameAt;rw [Int.toNat_natCast,List.getElem?_eq_getElem h]
 rfl
theorem looseOk_names {L L':List Lf}{b:Int}:∀ (l:List Int) (f:Int),(∀ x∈l,f<=x->x < b->nameAt L x≠0->nameAt L' x≠0)->looseOk L b f l = true->looseOk L' b f l = true
 | [],_,_,_=>rfl
 | x :: xs,f,hn,h=>by
  unfold looseOk at h |-;simp only [Bool.and_eq_true,decide_eq_true_eq,Bool.not_eq_true',beq_eq_false_iff_ne] at h |-;obtain⟨h1,h2,h3,h4⟩:=h;exact⟨h1,h2,hn x (List.mem_cons_self ..) h1 h2 h3,looseOk_names xs (x + 1) (λy hy g1 g2=>hn y (List.mem_cons_of_mem _ hy) (by omega) g2) h4⟩
theorem looseOk_bound {L:List Lf}{b b':Int}:∀ (l:List Int) (f:Int),(∀ x∈l,f<=x->x < b->nameAt L x≠0->x < b')->looseOk L b f l = true->looseOk L b' f l = true
 | [],_,_,_=>rfl
 | x :: xs,f,hn,h=>by
  unfold looseOk at h |-;simp only [Bool.and_eq_true,decide_eq_true_eq,Bool.not_eq_true',beq_eq_false_iff_ne] at h |-;obtain⟨h1,h2,h3,h4⟩:=h;exact⟨h1,hn x (List.mem_cons_self ..) h1 h2 h3,h3,looseOk_bound xs (x + 1) (λy hy g1 g2=>hn y (List.mem_cons_of_mem _ hy) (by omega) g2) h4⟩
theorem parentOk_zero (L:List Lf)(i:Nat):parentOk L i Pr.zero = true:=by
 unfold parentOk
 rfl
theorem leaf_right {L:List Lf}{P P':List Pr}(h:right L P = true){k:Nat}(hk:k < L.length)(l:Lf)(hl:l.name = L[k].name)(h0:L[k].name≠0)(hlen:P'.length = P.length)(hp:∀ j (h1:j < P'.length) (h2:j < P.length),P'[j] = P[j]\/parentOk L j P'[j] = true):right (L.set k l) P' = true:=by
 obtain⟨h1,h2,h3,h4,h5⟩:=(right_iff L P).1 h
 have hnames:∀ x:Int,nameAt (L.set k l) x = nameAt L x:=λx=>by
  unfold nameAt
  by_cases hx:k = x.toNat
  ·rw [<- hx,List.getElem?_set_self hk,List.getElem?_eq_getElem hk,Option.map_some,Option.map_some,hl]
  ·rw [List.getElem?_set_ne hx]
 have hname:∀ j (g:j < (L.set k l).length) (g':j < L.length),(L.set k l)[j].name = L[j].name:=λj g g'=>by
  rw [<- nameAt_get g,hnames,nameAt_get g']
 refine(right_iff _ _).2 ⟨by rw [List.length_set]; exact h1,by rw [List.length_set,hlen]; exact h2,?_,?_,?_⟩
 ·unfold lastBlank at h3 |-
  rw [List.length_set,hnames];exact h3
 ·rw [leavesOk_iff] at h4 |-
  intro i hi;have hi':i < L.length:=by rw [List.length_set] at hi; exact hi
  by_cases hik:k = i
  ·subst hik
   rcases h4 k hi' with g | ⟨g1,g2,g3,g4⟩
   ·exact absurd (by rw [g]; rfl) h0
   ·refine .inr ⟨by rw [hname k hi hi']; exact g1,by rw [hname k hi hi']; exact g2,(λe=>nomatch e),λj hj=>?_⟩
    rw [hname k hi hi',hname j (Nat.lt_trans hj hi) (Nat.lt_trans hj hi')];exact g4 j hj
  ·rcases h4 i hi' with g | ⟨g1,g2,g3,g4⟩
   ·left
    rw [List.getElem_set_ne hik];exact g
   ·refine .inr ⟨by rw [hname i hi hi']; exact g1,by rw [hname i hi hi']; exact g2,(λe=>nomatch e),λj hj=>?_⟩
    rw [hname i hi hi',hname j (Nat.lt_trans hj hi) (Nat.lt_trans hj hi')];exact g4 j hj
 ·rw [parentsOk_iff] at h5 |-
  intro j hj;rw [Nat.zero_add];have hj':j < P.length:=by rw [<- hlen]; exact hj
  have hok:parentOk L j P'[j] = true:=by
   rcases hp j hj hj' with g | g
   ·rw [g]
    have:=h5 j hj'
    rwa [Nat.zero_add] at this
   ·exact g
  unfold parentOk at hok |-;rw [List.length_set]
  split
  ·rename_i hs
   rw [if_pos hs] at hok;exact looseOk_names _ _ (λx _ _ _ g=>by rw [hnames]; exact g) hok
  ·rename_i hs
   rw [if_neg hs] at hok;exact hok
theorem blanks_at (W:List Int):∀ (P:List Pr) (j:Nat) (h1:j < (blanks W P).length) (h2:j < P.length),(blanks W P)[j] = P[j]\/(blanks W P)[j] = Pr.zero:=by
 induction W with
 | nil=>exact λP j h1 h2=>.inl rfl
 | cons y W ih=>
  intro P j h1 h2;have h3:j < (P.set (y.toNat / 2) Pr.zero).length:=by rw [List.length_set]; exact h2
  rcases ih (P.set (y.toNat / 2) Pr.zero) j h1 h3 with g | g
  ·by_cases hy:y.toNat / 2 = j
   ·right
    refine g.trans ?_;subst hy;exact List.getElem_set_self _
   ·left
    refine g.trans ?_;rw [List.getElem_set_ne hy]
  ·exact .inr g
theorem renew_right {L:List Lf}{P:List Pr}(h:right L P = true){x:Int}(hx:noneErr L x = 0)(pub:List UInt8):right (renL L x pub) (renP L P x) = true:=by
 have hno:none L x = false:=by
  unfold noneErr at hx
  cases h2:none L x with
  | true=>rw [h2] at hx; cases hx
  | false=>rfl
 obtain⟨k,rfl,hk⟩:=none_not hno
 have h0:L[k].name≠0:=by
  unfold none at hno;rw [Bool.or_eq_false_iff,Bool.or_eq_false_iff,nameAt_get hk,beq_eq_false_iff_ne] at hno;exact hno.2.2
 unfold renL renP;rw [hno,Int.toNat_natCast,List.getElem?_eq_getElem hk];refine leaf_right h hk _ rfl h0 (blanks_length _ _) λj h1 h2=>?_
 rcases blanks_at _ P j h1 h2 with g | g
 ·exact .inl g
 ·right
  show parentOk L j (blanks _ P)[j] = true;rw [g];exact parentOk_zero L j
theorem ends_spec (L:List Lf):∀ n,(ends L n = 0\/nameAt L ((ends L n - 1:Nat):Int)≠0)/\∀ i,ends L n<=i->i < n->nameAt L (i:Int) = 0
 | 0=>⟨.inl rfl,λi _ h=>absurd h (Nat.not_lt_zero _)⟩
 | n + 1=>by
  unfold ends
  by_cases h:(nameAt L (n:Int) == 0) = true
  ·rw [if_pos h]
   obtain⟨h1,h2⟩:=ends_spec L n;refine⟨h1,λi g1 g2=>?_⟩
   rcases Nat.lt_or_eq_of_le (Nat.le_of_lt_succ g2) with g | rfl
   ·exact h2 i g1 g
   ·exact beq_iff_eq.1 h
  ·rw [if_neg h]
   refine⟨.inr ?_,λi g1 g2=>by omega⟩
   rw [Nat.add_sub_cancel];exact λe=>h (beq_iff_eq.2 e)
theorem blanks_off (W:List Int):∀ (P:List Pr) (j:Nat) (h1:j < (blanks W P).length),W.any (λy=>y.toNat / 2 == j) = true->(blanks W P)[j] = Pr.zero:=by
 induction W with
 | nil=>exact λP j _ h=>nomatch h
 | cons y W ih=>
  intro P j h1 h;have h2:j < P.length:=by rw [blanks_length] at h1; exact h1
  have h3:j < (P.set (y.toNat / 2) Pr.zero).length:=by rw [List.length_set]; exact h2
  rw [List.any_cons,Bool.or_eq_true] at h
  rcases h with h | h
  ·rcases blanks_at W (P.set (y.toNat / 2) Pr.zero) j h1 h3 with g | g
   ·refine g.trans ?_
    have hy:=beq_iff_eq.1 h;subst hy;exact List.getElem_set_self _
   ·exact g
  ·exact ih _ j h1 h
theorem remove_right {L:List Lf}{P:List Pr}(h:right L P = true){x:Int}(hx:noneErr L x = 0):right (outL L x) (outP L P x) = true:=by
 have hno:none L x = false:=by
  unfold noneErr at hx
  cases h2:none L x with
  | true=>rw [h2] at hx; cases hx
  | false=>rfl
 obtain⟨k,rfl,hk⟩:=none_not hno;obtain⟨h1,h2,h3,h4,h5⟩:=(right_iff L P).1 h;unfold outL outP;rw [hno,Int.toNat_natCast];show right (remL L k) (remP L P k) = true;unfold remL remP;obtain⟨L1,hL1⟩:∃ L1,L1 = L.set k Lf.zero:=⟨_,rfl⟩;have hlen1:L1.length = L.length:=by rw [hL1,List.length_set]
 rw [<- hL1];obtain⟨s1,s2⟩:=ends_spec L1 L.length;have hle:=ends_le L1 L.length;obtain⟨n',hn'⟩:∃ n',n' = ends L1 L.length:=⟨_,rfl⟩;rw [<- hn'] at s1 s2 hle |-;have hl':(L1.take n').length = n':=by rw [List.length_take,hlen1,Nat.min_eq_left hle]
 have hname1:∀ x:Int,nameAt L1 x≠0->nameAt L x≠0/\x.toNat≠k:=λx g=>by
  unfold nameAt at g |-
  by_cases hx:k = x.toNat
  ·rw [hL1,<- hx,List.getElem?_set_self hk] at g
   exact absurd rfl g
  ·rw [hL1,List.getElem?_set_ne hx] at g
   exact⟨g,λe=>hx e.symm⟩
 have hname2:∀ x:Int,nameAt L x≠0->x.toNat≠k->nameAt L1 x≠0:=λx g hx=>by
  unfold nameAt at g |-;rw [hL1,List.getElem?_set_ne (λe=>hx e.symm)]
  exact g
 have hnamet:∀ x:Int,x.toNat < n'->nameAt (L1.take n') x = nameAt L1 x:=λx g=>by
  unfold nameAt;rw [List.getElem?_take,if_pos g]
 refine(right_iff _ _).2 ⟨by rw [hl']; omega,by rw [List.length_take,blanks_length,hl',h2]; omega,?_,?_,?_⟩
 ·unfold lastBlank
  rw [hl']
  rcases s1 with s1 | s1
  ·rw [s1]; rfl
  ·by_cases h0:0 < n'
   ·rw [hnamet _ (by rw [Int.toNat_natCast]; omega),Bool.and_eq_false_iff]
    exact .inr (beq_eq_false_iff_ne.2 s1)
   ·rw [decide_eq_false h0]; rfl
 ·rw [leavesOk_iff] at h4 |-
  intro i hi;have hin:i < n':=by rw [hl'] at hi; exact hi
  have hiL:i < L.length:=by omega
  have hget:∀ j (g:j < (L1.take n').length) (g1:j < L.length),(L1.take n')[j] = if k = j then Lf.zero else L[j]:=λj g g1=>by
   rw [List.getElem_take];subst hL1;rw [List.getElem_set]
  rw [hget i hi hiL]
  by_cases hik:k = i
  ·rw [if_pos hik]; exact .inl rfl
  ·rw [if_neg hik]
   rcases h4 i hiL with g | ⟨g1,g2,g3,g4⟩
   ·exact .inl g
   ·refine .inr ⟨g1,g2,(λe=>nomatch e),λj hj=>?_⟩
    rw [hget j (Nat.lt_trans hj hi) (Nat.lt_trans hj hiL)]
    by_cases hjk:k = j
    ·rw [if_pos hjk]
     have:Lf.zero.name = 0:=rfl
     omega
    ·rw [if_neg hjk]; exact g4 j hj
 ·rw [parentsOk_iff] at h5 |-
  intro j hj;have hjn:j < n' - 1:=by rw [List.length_take] at hj; omega
  have hjP:j < P.length:=by omega
  have hjb:j < (blanks (Bo.Direct (L.length:Int) (k:Int)) P).length:=by rw [blanks_length]; exact hjP
  rw [Nat.zero_add,List.getElem_take]
  cases hw:(Bo.Direct (L.length:Int) (k:Int)).any (λy=>y.toNat / 2 == j) with
  | true=>rw [blanks_off _ P j hjb hw]; exact parentOk_zero _ _
  | false=>
   rcases blanks_at _ P j hjb hjP with g | g
   ·rw [g]
    have hok:=h5 j hjP;rw [Nat.zero_add] at hok;unfold parentOk at hok |-;rw [hl']
    split
    ·rename_i hs
     rw [if_pos hs] at hok;rw [Bo.dir_holds h1 hk (by omega)] at hw
     obtain⟨c1,c2⟩:=Bo.cut_of h1 (i:=j) (by omega)
     obtain⟨d1,d2⟩:=Bo.cut_of (n:=n') (by omega) hjn
     rw [Bo.Holds,Bool.and_eq_false_iff,decide_eq_false_iff_not,decide_eq_false_iff_not] at hw;rw [d1,d2,<- c1]
     have hf0:0<=Bo.First (L.length:Int) ((2 * j + 1:Nat):Int):=by
      unfold Bo.First
      split
      ·exact Int.natCast_nonneg _
      ·exact Int.le_refl _
     refine looseOk_names (L:=L1) _ _ (λy _ g1 g2 g3=>?_) ?_
     ·rw [hnamet y (by omega)]; exact g3
     ·refine looseOk_bound _ _ (λy _ g1 g2 g3=>?_) (looseOk_names (L:=L) _ _ (λy _ g1 g2 g3=>?_) hok)
      ·have h6:¬ n'<=y.toNat:=λe=>by
        by_cases h7:y.toNat < L.length
        ·have:=s2 y.toNat e h7
         rw [show((y.toNat:Nat):Int) = y by omega] at this
         exact g3 this
        ·apply g3
         unfold nameAt;rw [List.getElem?_eq_none (by omega)]
         rfl
       omega
      ·exact hname2 y g3 (λe=>by omega)
    ·rename_i hs
     rw [if_neg hs] at hok;exact hok
   ·rw [g]; exact parentOk_zero _ _
end Tt
namespace Tt
theorem index_no {L:List Lf}{y:Int}(h:index L y = -1):∀ j (hj:j < L.length),L[j].name≠y:=λj hj e=>by
 unfold index at h
 cases hf:L.findIdx? (λl=>l.name == y) with
 | none=>
  have:=List.findIdx?_eq_none_iff.1 hf _ (List.getElem_mem hj);rw [beq_eq_false_iff_ne] at this;exact this e
 | some k=>
  rw [hf] at h;have h2:(k:Int) = -1:=h
  omega
theorem looseOk_mem {L:List Lf}{b:Int}:∀ (l:List Int) (f:Int),looseOk L b f l = true->∀ x∈l,f<=x/\x < b/\nameAt L x≠0
 | [],_,_=>λ_ h=>nomatch h
 | x :: xs,f,h=>by
  unfold looseOk at h;simp only [Bool.and_eq_true,decide_eq_true_eq,Bool.not_eq_true',beq_eq_false_iff_ne] at h;obtain⟨h1,h2,h3,h4⟩:=h;intro y hy
  rcases List.mem_cons.1 hy with e | e
  ·rw [e]; exact⟨h1,h2,h3⟩
  ·obtain⟨g1,g2,g3⟩:=looseOk_mem xs (x + 1) h4 y e
   exact⟨by omega,g2,g3⟩
theorem looseOk_put {L:List Lf}{b x:Int}(hx:x < b)(hn:nameAt L x≠0):∀ (l:List Int) (f:Int),f<=x->(∀ y∈l,y≠x)->looseOk L b f l = true->looseOk L b f (put l x) = true
 | [],f,h1,_,_=>by
  unfold put looseOk looseOk;simp only [Bool.and_eq_true,decide_eq_true_eq,Bool.not_eq_true',beq_eq_false_iff_ne];exact⟨h1,hx,hn,trivial⟩
 | y :: l,f,h1,hne,h=>by
  have hq:=h;unfold looseOk at h;simp only [Bool.and_eq_true,decide_eq_true_eq,Bool.not_eq_true',beq_eq_false_iff_ne] at h;obtain⟨g1,g2,g3,g4⟩:=h;unfold put
  by_cases hxy:x < y
  ·rw [if_pos hxy]
   unfold looseOk;simp only [Bool.and_eq_true,decide_eq_true_eq,Bool.not_eq_true',beq_eq_false_iff_ne];refine⟨h1,hx,hn,?_⟩;unfold looseOk;simp only [Bool.and_eq_true,decide_eq_true_eq,Bool.not_eq_true',beq_eq_false_iff_ne];exact⟨by omega,g2,g3,g4⟩
  ·rw [if_neg hxy]
   have hyx:=hne y (List.mem_cons_self ..);unfold looseOk;simp only [Bool.and_eq_true,decide_eq_true_eq,Bool.not_eq_true',beq_eq_false_iff_ne];exact⟨g1,g2,g3,looseOk_put hx hn l (y + 1) (by omega) (λz hz=>hne z (List.mem_cons_of_mem _ hz)) g4⟩
theorem nameAt_wide (L:List Lf)(x:Int):nameAt (wide L) x = nameAt L x:=by
 unfold wide
 split
 ·unfold nameAt
  rw [List.getElem?_append]
  split
  ·rfl
  ·rename_i h
   rw [List.getElem?_eq_none (Nat.le_of_not_lt h)]
   rcases Nat.eq_zero_or_pos (x.toNat - L.length) with e | e
   ·rw [e]; rfl
   ·rw [List.getElem?_eq_none (by rw [List.length_singleton]; exact e)]
 ·rfl
theorem blank_name (L:List Lf):nameAt L (firstBlank L:Int) = 0:=by
 by_cases h:firstBlank L < L.length
 ·obtain⟨l,h1,h2⟩:=firstBlank_is L h
  unfold nameAt;rw [Int.toNat_natCast,h1];exact h2
 ·unfold nameAt
  rw [Int.toNat_natCast,List.getElem?_eq_none (Nat.le_of_not_lt h)]
  rfl
theorem add_right {L:List Lf}{P:List Pr}(h:right L P = true)(l:Lf)(he:addErr L l.name = 0):right (putL L l) (putP L P l.name) = true:=by
 obtain⟨h1,h2,h3,h4,h5⟩:=(right_iff L P).1 h
 obtain⟨g1,g2,g3⟩:(1<=l.name/\l.name<=64)/\index L l.name = -1/\firstBlank L≠64:=by
  rcases addWays L l.name with ⟨_,h0⟩ | ⟨_,_,h0⟩ | ⟨_,_,_,h0⟩ | ⟨k1,k2,k3,_⟩
  ·rw [h0] at he; cases he
  ·rw [h0] at he; cases he
  ·rw [h0] at he; cases he
  ·rw [Bool.and_eq_true,decide_eq_true_eq,decide_eq_true_eq] at k1
   exact⟨k1,k2,k3⟩
 unfold putL putP;rw [if_pos he,if_pos he];unfold addL addP;obtain⟨fb,hfb⟩:∃ fb,fb = firstBlank L:=⟨_,rfl⟩;have hfl:fb<=L.length:=by rw [hfb]; exact firstBlank_le L
 have hblank:nameAt L (fb:Int) = 0:=by rw [hfb]; exact blank_name L
 obtain⟨W,hW⟩:∃ W,W = wide L:=⟨_,rfl⟩;obtain⟨Q,hQ⟩:∃ Q,Q = wideP L P:=⟨_,rfl⟩;rw [<- hfb,<- hW,<- hQ]
 have hWl:W.length = if fb = L.length then L.length + 1 else L.length:=by
  rw [hW,wide,<- hfb]
  split
  ·rw [List.length_append,List.length_singleton]
  ·rfl
 have hn64:W.length<=64:=by rw [hWl]; split <;> omega
 have hfw:fb < W.length:=by rw [hWl]; split <;> omega
 have hLW:L.length<=W.length:=by rw [hWl]; split <;> omega
 have hQl:Q.length = W.length - 1:=by
  rw [hQ,wideP,<- hfb,hWl]
  split
  ·split
   ·rw [h2]; omega
   ·rw [List.length_append,List.length_singleton,h2]; omega
  ·exact h2
 have hWi:∀ i (a:i < W.length) (b:i < L.length),W[i] = L[i]:=λi a b=>by
  apply Option.some.inj;rw [<- List.getElem?_eq_getElem a,<- List.getElem?_eq_getElem b,hW,wide]
  split
  ·rw [List.getElem?_append_left b]
  ·rfl
 have hnew:∀ i,i < W.length->i≠fb->i < L.length:=λi a b=>by rw [hWl] at a; split at a <;> omega
 have hname:∀ x:Int,nameAt (W.set fb l) x = if fb = x.toNat then l.name else nameAt L x:=λx=>by
  by_cases hx:fb = x.toNat
  ·rw [if_pos hx]
   unfold nameAt;rw [<- hx,List.getElem?_set_self hfw]
   rfl
  ·rw [if_neg hx,<- nameAt_wide L x,<- hW]
   unfold nameAt;rw [List.getElem?_set_ne hx]
 have hset:(W.set fb l).length = W.length:=List.length_set;refine(right_iff _ _).2 ⟨by rw [hset]; exact hn64,by rw [loosens_length,hset]; exact hQl,?_,?_,?_⟩
 ·unfold lastBlank
  rw [hset,hname,Int.toNat_natCast,Bool.and_eq_false_iff]
  right
  rw [beq_eq_false_iff_ne]
  split
  ·omega
  ·rename_i hlast
   have hlt:=hnew (W.length - 1) (by omega) (λe=>hlast e.symm)
   have hwl:W.length = L.length:=by omega
   unfold lastBlank at h3;rw [decide_eq_true (by omega),Bool.true_and,beq_eq_false_iff_ne] at h3
   rw [hwl];exact h3
 ·rw [leavesOk_iff] at h4 |-
  intro i hi;have hiW:i < W.length:=by rw [hset] at hi; exact hi
  have hno:=index_no g2
  by_cases hif:fb = i
  ·subst hif
   right
   rw [List.getElem_set_self];refine⟨g1.1,g1.2,(λe=>nomatch e),λj hj=>?_⟩
   rw [List.getElem_set_ne (Nat.ne_of_gt hj),hWi j (Nat.lt_trans hj hiW) (by omega)]
   exact hno j _
  ·have hiL:=hnew i hiW (λe=>hif e.symm)
   rw [List.getElem_set_ne hif,hWi i hiW hiL]
   rcases h4 i hiL with g | ⟨k1,k2,k3,k4⟩
   ·exact .inl g
   ·refine .inr ⟨k1,k2,(λe=>nomatch e),λj hj=>?_⟩
    by_cases hjf:fb = j
    ·subst hjf
     rw [List.getElem_set_self];exact λe=>hno i hiL e.symm
    ·rw [List.getElem_set_ne hjf,hWi j (Nat.lt_trans hj hiW) (Nat.lt_trans hj hiL)]
     exact k4 j hj
 ·rw [parentsOk_iff] at h5 |-
  intro j hj;rw [Nat.zero_add];have hjQ:j < Q.length:=by rw [loosens_length] at hj; exact hj
  have hjn:j < W.length - 1:=by omega
  obtain⟨c1,c2⟩:=Bo.cut_of hn64 hjn
  have hcnt:∀ x:Int,nameAt L x≠0->nameAt (W.set fb l) x≠0:=λx g=>by
   rw [hname]
   split
   ·omega
   ·exact g
  have hold:parentOk (W.set fb l) j Q[j] = true/\∀ y∈Q[j].loose,nameAt L y≠0:=by
   have hcase:Q[j] = Pr.zero\/∃ hjP:j < P.length,Q[j] = P[j]:=by
    by_cases hjP:j < P.length
    ·right
     refine⟨hjP,?_⟩;apply Option.some.inj;rw [<- List.getElem?_eq_getElem hjQ,<- List.getElem?_eq_getElem hjP,hQ,wideP]
     split
     ·split
      ·rfl
      ·rw [List.getElem?_append_left hjP]
     ·rfl
    ·left
     apply Option.some.inj;rw [<- List.getElem?_eq_getElem hjQ];rw [hQ,wideP] at hjQ |-
     split at hjQ
     ·rename_i e1
      rw [if_pos e1]
      split at hjQ
      ·exact absurd hjQ hjP
      ·rename_i e2
       rw [if_neg e2,List.getElem?_append_right (Nat.le_of_not_lt hjP)];rw [List.length_append,List.length_singleton] at hjQ;rw [show j - P.length = 0 by omega]
       rfl
     ·exact absurd hjQ hjP
   rcases hcase with e | ⟨hjP,e⟩
   ·rw [e]
    exact⟨parentOk_zero _ _,λy hy=>nomatch hy⟩
   ·rw [e]
    have hok:=h5 j hjP;rw [Nat.zero_add] at hok;unfold parentOk at hok |-;rw [hset]
    by_cases hs:P[j].set = true
    ·rw [if_pos hs] at hok |-
     obtain⟨d1,d2⟩:=Bo.cut_of (n:=L.length) (i:=j) h1 (by omega)
     rw [c1,c2,<- d1];refine⟨looseOk_names (L:=L) _ _ (λx _ _ _ g=>hcnt x g) (looseOk_bound _ _ (λx _ _ a _=>?_) hok),λy hy=>(looseOk_mem _ _ hok y hy).2.2⟩
     rw [d2] at a
     omega
    ·rw [if_neg hs] at hok |-
     refine⟨hok,λy hy=>?_⟩
     simp only [Bool.and_eq_true,beq_iff_eq] at hok;rw [List.length_eq_zero_iff.1 hok.2.2] at hy
     cases hy
  have hget:=loosens_get fb j (Bo.Direct (W.length:Int) (fb:Int)) Q (Bo.dir_nodup hn64 hfw);rw [List.getElem?_eq_getElem hj,List.getElem?_eq_getElem hjQ] at hget
  cases hw:(Bo.Direct (W.length:Int) (fb:Int)).any (λy=>y.toNat / 2 == j) with
  | false=>
   rw [hw,if_neg (by decide)] at hget
   rw [Option.some.inj hget];exact hold.1
  | true=>
   rw [hw,if_pos rfl,Option.map_some] at hget;rw [Option.some.inj hget];unfold loosened
   by_cases hs:Q[j].set = true
   ·rw [if_pos hs]
    have hok:=hold.1;unfold parentOk at hok |-;rw [if_pos hs] at hok
    dsimp only
    rw [if_pos hs];rw [hset] at hok |-;rw [Bo.dir_holds hn64 hfw hjn,Bo.Holds,Bool.and_eq_true,decide_eq_true_eq,decide_eq_true_eq] at hw;exact looseOk_put hw.2 (by rw [hname,Int.toNat_natCast,if_pos rfl]; omega) _ _ hw.1 (λy hy e=>hold.2 y hy (by rw [e]; exact hblank)) hok
   ·rw [if_neg hs]
    exact hold.1
end Tt
end Go.Proofs.YtinebhdilnndaaaGreatDoor
