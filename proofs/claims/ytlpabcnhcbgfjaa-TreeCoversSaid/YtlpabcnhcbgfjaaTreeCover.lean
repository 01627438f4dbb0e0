/-
 What the root resolves to holds each member: as mathematics.
-/
import Derived.Test.YtlpabcnhcbgfjaaHF
import Derived.Test.YtlpabcnhcbgfjaaHO
namespace Go.Proofs.Ytlpabcnhcbgfjaa
open Go.RowKit Go.Lib
open List renaming setIfInBounds_toArray → sA, set_cons_zero → sB, set_cons_succ → sC
open BigFrame renaming wpList_want → wQ
theorem Bo.holds_seg {n a m:Nat}{p b:Int}(h:Bo.Seg n a m p b)(h1:1≤n)(h64:n≤64)(k:Nat):Bo.Holds (n:Int) ((Bo.root a m:Nat):Int) (k:Int) = true↔a≤k∧k < a + m:=by
 obtain⟨_,_,e3,e4⟩:=Bo.say (h.inn h1) h64 (h.part h1 h64);rw [Bo.Holds,e3,e4,Bool.and_eq_true,decide_eq_true_eq,decide_eq_true_eq]
 omega
theorem Bo.holds_leaf9 {n y:Nat}(hy:y < n)(h64:n≤64)(k:Nat):Bo.Holds (n:Int) (2 * (y:Int)) (k:Int) = true↔k = y:=by
 obtain⟨a,m,p,b,h1,h2,_,h4,_⟩:=Bo.seg_of (n:=n) (x:=2 * y) ⟨by omega,by omega,by omega⟩ h64
 have hm:m = 1:=by
  by_cases hm:m = 1
  ·exact hm
  ·have h5:Bo.root a m = 2 * (a + Bo.half m) - 1:=by rw [Bo.root,if_neg hm]
   have h6:=Bo.half_pos m
   omega
 subst hm;have h7:Bo.root a 1 = 2 * a:=by rw [Bo.root,if_pos rfl]
 have:=Bo.holds_seg h1 (by omega) h64 k
 rw [h2,show((2 * y:Nat):Int) = 2 * (y:Int) by omega] at this
 rw [this]
 omega
namespace Tt
def selfC (W:List Int)(k:Nat):Nat:=W.countP (fun x=>x == 2 * (k:Int))
def overC (n:Nat)(W:List Int)(k:Nat):Nat:=W.countP (fun x=>!(x == 2 * (k:Int)) && Bo.Holds (n:Int) x (k:Int))
theorem loose_count {L:List Lf}{b:Int}(k:Int):∀ (l:List Int) (f:Int),looseOk L b f l = true→l.countP (fun y=>y == k)≤1∧(k < f→l.countP (fun y=>y == k) = 0)
 | [],_,_=>⟨Nat.zero_le _,fun _=>rfl⟩
 | x :: xs,f,h=>by
  unfold looseOk at h;simp only [Bool.and_eq_true,decide_eq_true_eq] at h;obtain⟨h1,_,_,h4⟩:=h;obtain⟨g1,g2⟩:=loose_count k xs (x + 1) h4
  by_cases hx:x = k
  ·rw [List.countP_cons_of_pos (by rw [beq_iff_eq]; exact hx)]
   have:=g2 (by omega)
   exact⟨by omega,fun e=>by omega⟩
  ·rw [List.countP_cons_of_neg (by rw [beq_iff_eq]; exact hx)]
   exact⟨g1,fun e=>g2 (by omega)⟩
theorem count_double (k:Int)(l:List Int):(l.map (fun y=>2 * y)).countP (fun x=>x == 2 * k) = l.countP (fun y=>y == k):=by
 rw [List.countP_map];refine List.countP_congr fun y _=>?_
 show(2 * y == 2 * k) = true↔(y == k) = true;rw [beq_iff_eq,beq_iff_eq]
 omega
theorem res_cover {L:List Lf}{P:List Pr}(hr:right L P = true)(h1:1≤L.length)(k:Nat):∀ (f a m:Nat) (p b:Int),m≤f→Bo.Seg L.length a m p b →
  (¬ (a≤k∧k < a + m)→selfC (resSeg L P f a m) k = 0∧overC L.length (resSeg L P f a m) k = 0) ∧
  (a≤k∧k < a + m→(nameAt L (k:Int) = 0→selfC (resSeg L P f a m) k = 0)∧(nameAt L (k:Int)≠0→selfC (resSeg L P f a m) k≤1∧overC L.length (resSeg L P f a m) k≤1∧1≤selfC (resSeg L P f a m) k + overC L.length (resSeg L P f a m) k)):=by
 obtain⟨h64,hpl,_,_,hpo⟩:=(right_iff L P).1 hr;intro f
 induction f with
 | zero=>intro a m p b hm hs; have:=(hs.size h1).1; omega
 | succ f ih=>
  intro a m p b hmf hs;obtain⟨hm1,ham⟩:=hs.size h1;rw [resSeg]
  by_cases hm:m = 1
  ·subst hm
   rw [if_pos rfl];have hra:Bo.root a 1 = 2 * a:=by rw [Bo.root,if_pos rfl]
   have hgn:(L.getD a Lf.zero).name = nameAt L (a:Int):=by
    rw [nameAt_get (by omega),List.getD_eq_getElem?_getD,List.getElem?_eq_getElem (by omega),Option.getD_some]
   rw [hgn,hra]
   by_cases hz:nameAt L (a:Int) = 0
   ·rw [if_pos hz]
    refine⟨fun _=>⟨rfl,rfl⟩,fun hk=>?_⟩
    obtain rfl:k = a:=by omega
    exact⟨fun _=>rfl,fun e=>absurd hz e⟩
   ·rw [if_neg hz]
    have hh:=Bo.holds_leaf9 (n:=L.length) (y:=a) (by omega) h64 k
    unfold selfC overC;rw [show((2 * a:Nat):Int) = 2 * (a:Int) by omega]
    by_cases hk:k = a
    ·subst hk
     rw [List.countP_cons_of_pos (by rw [beq_iff_eq]),List.countP_nil,List.countP_cons_of_neg (by simp),List.countP_nil]
     exact⟨fun e=>absurd ⟨Nat.le_refl _,by omega⟩ e,fun _=>⟨fun e=>absurd e hz,fun _=>⟨by omega,by omega,by omega⟩⟩⟩
    ·have hb:Bo.Holds (L.length:Int) (2 * (a:Int)) (k:Int) = false:=Bool.eq_false_iff.2 fun e=>hk (hh.1 e)
     rw [List.countP_cons_of_neg (by rw [beq_iff_eq]; omega),List.countP_nil,List.countP_cons_of_neg (by rw [hb,Bool.and_false]; decide),List.countP_nil]
     exact⟨fun _=>⟨rfl,rfl⟩,fun e=>by omega⟩
  ·rw [if_neg hm]
   have h2:2≤m:=by omega
   have hroot:Bo.root a m = 2 * (a + Bo.half m) - 1:=by rw [Bo.root,if_neg hm]
   have hp0:=Bo.half_pos m;have hp1:=Bo.half_lt h2;have hodd:Bo.root a m = 2 * (Bo.root a m / 2) + 1:=by omega
   have hi:Bo.root a m / 2 < P.length:=by omega
   by_cases hset:(P.getD (Bo.root a m / 2) Pr.zero).set = true
   ·rw [if_pos hset]
    have hgd:P.getD (Bo.root a m / 2) Pr.zero = P[Bo.root a m / 2]:=by rw [List.getD_eq_getElem?_getD,List.getElem?_eq_getElem hi,Option.getD_some]
    rw [hgd] at hset ⊢;have hok:=(parentsOk_iff L P 0).1 hpo _ hi;rw [Nat.zero_add] at hok;unfold parentOk at hok;rw [if_pos hset,← hodd] at hok;obtain⟨_,_,e3,e4⟩:=Bo.say (hs.inn h1) h64 (hs.part h1 h64);rw [e3,e4] at hok;generalize P[Bo.root a m / 2].loose = l at hok;have hmem:=looseOk_mem l _ hok;obtain⟨c1,_⟩:=loose_count (k:Int) l _ hok;have hh:=Bo.holds_seg hs h1 h64 k;have hne:¬ ((Bo.root a m:Nat):Int) = 2 * (k:Int):=by omega
    have hself:selfC (((Bo.root a m:Nat):Int) :: l.map (fun y=>2 * y)) k = l.countP (fun y=>y == (k:Int)):=by
     unfold selfC;rw [List.countP_cons_of_neg (by rw [beq_iff_eq]; exact hne),count_double]
    have hover0:(l.map (fun y=>2 * y)).countP (fun x=>!(x == 2 * (k:Int)) && Bo.Holds (L.length:Int) x (k:Int)) = 0:=by
     rw [List.countP_eq_zero];intro x hx;obtain⟨y,hy,rfl⟩:=List.mem_map.1 hx;obtain⟨y1,y2,_⟩:=hmem y hy;obtain⟨q,rfl⟩:∃ q:Nat,y = (q:Int):=⟨y.toNat,by omega⟩
     have:=Bo.holds_leaf9 (n:=L.length) (y:=q) (by omega) h64 k
     rw [Bool.and_eq_true,this];rintro ⟨e1,e2⟩;rw [e2] at e1;simp at e1
    have hover:overC L.length (((Bo.root a m:Nat):Int) :: l.map (fun y=>2 * y)) k = if a≤k∧k < a + m then 1 else 0:=by
     unfold overC
     by_cases hk:a≤k∧k < a + m
     ·rw [if_pos hk,List.countP_cons_of_pos (by rw [Bool.and_eq_true]; exact⟨by simpa using hne,hh.2 hk⟩),hover0]
     ·rw [if_neg hk,List.countP_cons_of_neg (by rw [Bool.and_eq_true]; exact fun e=>hk (hh.1 e.2)),hover0]
    rw [hself,hover]
    constructor
    ·intro hk
     rw [if_neg hk];refine⟨?_,rfl⟩;rw [List.countP_eq_zero];intro y hy;obtain⟨y1,y2,_⟩:=hmem y hy;rw [beq_iff_eq]
     omega
    ·intro hk
     rw [if_pos hk];refine⟨fun hz=>?_,fun _=>⟨c1,Nat.le_refl _,by omega⟩⟩
     rw [List.countP_eq_zero];intro y hy;rw [beq_iff_eq];intro e;rw [e] at hy;exact(hmem _ hy).2.2 hz
   ·rw [if_neg hset]
    obtain⟨l1,l2⟩:=ih a (Bo.half m) _ _ (by omega) (hs.left h2)
    obtain⟨r1,r2⟩:=ih (a + Bo.half m) (m - Bo.half m) _ _ (by omega) (hs.right h2)
    have hsum:selfC (resSeg L P f a (Bo.half m) ++ resSeg L P f (a + Bo.half m) (m - Bo.half m)) k = selfC (resSeg L P f a (Bo.half m)) k + selfC (resSeg L P f (a + Bo.half m) (m - Bo.half m)) k:=List.countP_append;have hosum:overC L.length (resSeg L P f a (Bo.half m) ++ resSeg L P f (a + Bo.half m) (m - Bo.half m)) k = overC L.length (resSeg L P f a (Bo.half m)) k + overC L.length (resSeg L P f (a + Bo.half m) (m - Bo.half m)) k:=List.countP_append;rw [hsum,hosum]
    by_cases hl:a≤k∧k < a + Bo.half m
    ·obtain⟨a1,a2⟩:=l2 hl
     obtain⟨b1,b2⟩:=r1 (by omega)
     rw [b1,b2];exact⟨fun e=>by omega,fun _=>⟨fun z=>by rw [a1 z],fun z=>by have:=a2 z; omega⟩⟩
    ·obtain⟨b1,b2⟩:=l1 hl
     rw [b1,b2]
     by_cases hrr:a + Bo.half m≤k∧k < a + Bo.half m + (m - Bo.half m)
     ·obtain⟨a1,a2⟩:=r2 hrr
      exact⟨fun e=>by omega,fun _=>⟨fun z=>by rw [a1 z],fun z=>by have:=a2 z; omega⟩⟩
     ·obtain⟨d1,d2⟩:=r1 hrr
      rw [d1,d2];exact⟨fun _=>⟨rfl,rfl⟩,fun e=>by omega⟩
end Tt
end Go.Proofs.Ytlpabcnhcbgfjaa
