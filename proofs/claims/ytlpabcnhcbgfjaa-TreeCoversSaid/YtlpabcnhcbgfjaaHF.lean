/-
 TreeNode; TreeResMath; TreeNot: several texts in one.
-/
import Derived.Test.YtlpabcnhcbgfjaaHI
import Derived.Test.YtlpabcnhcbgfjaaHA
namespace Go.Proofs.Ytlpabcnhcbgfjaa
open Go.RowKit Go.Lib
open List renaming setIfInBounds_toArray → sA, set_cons_zero → sB, set_cons_succ → sC
open BigFrame renaming wpList_want → wQ
namespace Tt
def hashNode (L:List Lf)(P:List Pr)(x:Nat):List UInt8:=hashSeg L P L.length (Bo.part L.length x).1 (Bo.part L.length x).2.1
theorem hashNode_len (L:List Lf)(P:List Pr)(x:Nat)(h:1≤L.length):(hashNode L P x).length = 32:=by
 obtain⟨k,hk⟩:∃ k,L.length = k + 1:=⟨L.length - 1,by omega⟩
 unfold hashNode;rw [hk];exact hashSeg_len L P k _ _
def nodeHash (L:List Lf)(P:List Pr)(x:Int):List UInt8:=if 0≤x∧x≤2 * (L.length:Int) - 2 then hashNode L P x.toNat else List.replicate 32 0
end Tt
section
variable (lv pv:Value) (L:List Lf) (P:List Pr) (hF:Tt.Fine L P) (x:Nat) (hx:Bo.In 0 L.length x) (w:World) (hL:Lvs w lv L) (hP:Pts w pv P)
include hF hx hL hP
theorem refhashat_node:Calls Try.prog 61 #[.agg #[lv,pv],.int .i64 (x:Int)] w fun e w'=>e = .returned (.agg (bcells (Tt.hashNode L P x)).toArray)∧Kept w.heap.size w.heap.size w w':=by
 obtain⟨a,m,p,b,h1,h2,h3,h4,h5⟩:=Bo.seg_of hx hF.n64;have:=refhashat_calls L P hF L.length rfl hx.1 L.length a m p b (by omega) h1 lv pv w hL hP
 rw [h2] at this;unfold Tt.hashNode;rw [h3];exact this
end
theorem isnode8_yes (n:Nat)(x:Int)(h64:n≤64)(h:0≤x∧x≤2 * (n:Int) - 2)(w:World):Calls Try.prog 19 #[.int .i64 (n:Int),.int .i64 x] w fun e w'=>e = .returned (.bool true)∧w' = w:=by
 obtain⟨h1,h2⟩:=h;have hw1:IntKind.i64.wrap (2 * (n:Int)) = 2 * (n:Int):=wrap_small _ (by omega) (by omega)
 have hw2:IntKind.i64.wrap (2 * (n:Int) - 2) = 2 * (n:Int) - 2:=wrap_small _ (by omega) (by omega)
 have h3:x≥0:=h1
 go_enter Try.func19,Try.ntmps19
 go_wp2;go_ret;exact⟨by simp,rfl⟩
theorem isnode8_no (n:Nat)(x:Int)(h64:n≤64)(h:¬ (0≤x∧x≤2 * (n:Int) - 2))(w:World):Calls Try.prog 19 #[.int .i64 (n:Int),.int .i64 x] w fun e w'=>e = .returned (.bool false)∧w' = w:=by
 have hw1:IntKind.i64.wrap (2 * (n:Int)) = 2 * (n:Int):=wrap_small _ (by omega) (by omega)
 have hw2:IntKind.i64.wrap (2 * (n:Int) - 2) = 2 * (n:Int) - 2:=by
  rcases Nat.eq_zero_or_pos n with h0 | h0
  ·rw [h0]; rfl
  ·exact wrap_small _ (by omega) (by omega)
 by_cases h1:0≤x
 ·have h2:¬ x≤2 * (n:Int) - 2:=fun h3=>h ⟨h1,h3⟩
  have h3:x≥0:=h1
  go_enter Try.func19,Try.ntmps19
  go_wp2;go_ret;exact⟨by simp,rfl⟩
 ·have h3:¬ x≥0:=h1
  go_enter Try.func19,Try.ntmps19
  go_wp2;go_ret;exact⟨by simp,rfl⟩
namespace Tt
def resSeg (L:List Lf)(P:List Pr):Nat→Nat→Nat→List Int
 | 0,_,_=>[]
 | k + 1,a,m=>if m = 1 then (if (L.getD a Lf.zero).name = 0 then [] else [((Bo.root a m:Nat):Int)])
  else if (P.getD (Bo.root a m / 2) Pr.zero).set then ((Bo.root a m:Nat):Int) :: (P.getD (Bo.root a m / 2) Pr.zero).loose.map (fun y=>2 * y)
  else resSeg L P k a (Bo.half m) ++ resSeg L P k (a + Bo.half m) (m - Bo.half m)
theorem resSeg_length (L:List Lf)(P:List Pr)(h:∀ p∈P,p.loose.length≤1000):∀ k a m,1≤m→(resSeg L P k a m).length≤1001 * m
 | 0,_,_,_=>Nat.zero_le _
 | k + 1,a,m,hm=>by
  rw [resSeg]
  split
  ·split
   ·exact Nat.zero_le _
   ·rw [List.length_singleton]; omega
  ·split
   ·rw [List.length_cons,List.length_map]
    have:(P.getD (Bo.root a m / 2) Pr.zero).loose.length≤1000:=by
     rw [List.getD_eq_getElem?_getD]
     cases hg:P[Bo.root a m / 2]? with
     | none=>exact Nat.zero_le _
     | some p=>exact h p (List.mem_of_getElem? hg)
    have:1001≤1001 * m:=Nat.le_mul_of_pos_right _ hm
    omega
   ·rename_i h1 _
    have h2:=Bo.half_pos m;have h3:=Bo.half_lt (m:=m) (by omega)
    have h4:=resSeg_length L P h k a (Bo.half m) h2;have h5:=resSeg_length L P h k (a + Bo.half m) (m - Bo.half m) (by omega)
    rw [List.length_append];have:1001 * Bo.half m + 1001 * (m - Bo.half m) = 1001 * m:=by rw [← Nat.mul_add]; congr 1; omega
    omega
end Tt
section
variable (lv pv:Value) (L:List Lf) (P:List Pr) (w:World) (hL:Lvs w lv L) (hP:Pts w pv P) (hn:L.length≤1000) (hp:P.length≤1000) (hpl:∀ p∈P,p.loose.length≤1000) (hr:Tt.right L P = false)
include hL hP hn hp hpl hr
end
end Go.Proofs.Ytlpabcnhcbgfjaa
