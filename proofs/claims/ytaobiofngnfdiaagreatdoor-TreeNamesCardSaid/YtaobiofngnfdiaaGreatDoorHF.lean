/-
 TreeNode; TreeResMath: several texts in one.
-/
import Derived.Test.YtaobiofngnfdiaaGreatDoorHI
import Derived.Test.YtaobiofngnfdiaaGreatDoorHA
namespace Go.Proofs.YtaobiofngnfdiaaGreatDoor
open Go.RowKit Go.Lib
open List renaming setIfInBounds_toArray → sA, set_cons_zero → sB, set_cons_succ → sC
open BigFrame renaming wpList_want → wQ
namespace Tt
def hashNode (L:List Lf)(P:List Pr)(x:Nat):List UInt8:=hashSeg L P L.length (Bo.part L.length x).1 (Bo.part L.length x).2.1
theorem hashNode_len (L:List Lf)(P:List Pr)(x:Nat)(h:1≤L.length):(hashNode L P x).length = 32:=by
 obtain⟨k,hk⟩:∃ k,L.length = k + 1:=⟨L.length - 1,by omega⟩
 unfold hashNode;rw [hk];exact hashSeg_len L P k _ _
def nodeHash (L:List Lf)(P:List Pr)(x:Int):List UInt8:=if 0≤x∧x≤2 * (L.length:Int) - 2 then hashNode L P x.toNat else List.replicate 32 0
end Tt
section
variable (lv pv:Value) (L:List Lf) (P:List Pr) (hF:Tt.Fine L P) (x:Nat) (hx:Bo.In 0 L.length x) (w:World) (hL:Lvs w lv L) (hP:Pts w pv P)
include hF hx hL hP
theorem hashof_node (htab:Tab w):Calls Tryz.prog 39 #[.agg #[lv,pv],.int .i64 (x:Int)] w fun e w'=>e = .returned (.agg (bcells (Tt.hashNode L P x)).toArray)∧Kept w.heap.size w.heap.size w w':=by
 obtain⟨a,m,p,b,h1,h2,h3,h4,h5⟩:=Bo.seg_of hx hF.n64;have:=hashof_calls L P hF L.length rfl hx.1 L.length a m p b (by omega) h1 lv pv w htab hL hP
 rw [h2] at this;unfold Tt.hashNode;rw [h3];exact this
end
namespace Tt
def resSeg (L:List Lf)(P:List Pr):Nat→Nat→Nat→List Int
 | 0,_,_=>[]
 | k + 1,a,m=>if m = 1 then (if (L.getD a Lf.zero).name = 0 then [] else [((Bo.root a m:Nat):Int)])
  else if (P.getD (Bo.root a m / 2) Pr.zero).set then ((Bo.root a m:Nat):Int) :: (P.getD (Bo.root a m / 2) Pr.zero).loose.map (fun y=>2 * y)
  else resSeg L P k a (Bo.half m) ++ resSeg L P k (a + Bo.half m) (m - Bo.half m)
end Tt
theorem iapp_none (w:World)(ad:Option Addr)(n m:Nat)(hnm:n≤m)(q:Addr)(c:Nat):(Builtin.append_ #[57,57] 57 #[.slice ad n m,.slice (some q) 0 c]).run Tryz.prog w = .ok (.slice ad n m) w:=by
 obtain⟨i,hi,hz,hzs,hs1⟩:=info_parts intInfo;have ht:=Tryz.underlying57
 have hf:=run_firstCells_some (P:=Tryz.prog) w i.size 0 q 0 c [] (by simp) (by simp)
 cases ad <;> simp [Builtin.append_,run_underlying ht,sizeOf,typeInfo,hi,Builtin.lenOf,hnm,hf,storeCells]
theorem iapp_nil (w:World)(ad:Option Addr)(n m:Nat)(hnm:n≤m)(c:Nat):(Builtin.append_ #[57,57] 57 #[.slice ad n m,.slice none 0 c]).run Tryz.prog w = .ok (.slice ad n m) w:=by
 obtain⟨i,hi,hz,hzs,hs1⟩:=info_parts intInfo;have ht:=Tryz.underlying57
 have hf:=run_firstCells_none (P:=Tryz.prog) w i.size 0 0 c
 cases ad <;> simp [Builtin.append_,run_underlying ht,sizeOf,typeInfo,hi,Builtin.lenOf,hnm,hf,storeCells]
theorem append_nums8 (w:World)(base:Nat)(v:Value)(L M:List Int)(h:Ints w base v L)(b o c:Nat)(hb:∀ i (hi:i < M.length),w.cell? ⟨b,o + i,none⟩ = some (.int .i64 M[i]))(hn:L.length + M.length < 1000000)(hbase:base≤w.heap.size):
  ∃ v' w',(Builtin.append_ #[57,57] 57 #[v,.slice (some ⟨b,o,none⟩) M.length c]).run Tryz.prog w = .ok v' w'∧Ints w' base v' (L ++ M)∧w.grownBy w' v.ownBlock:=by
 obtain⟨i0,hi,hz0,hz1,hz2⟩:=info_parts intInfo
 obtain⟨v',w',e1,e2,e3,_⟩:=run_append_own (P:=Tryz.prog) w base 57 57 3 i0 (.int .i64 0) 1 8 Tryz.underlying57 hi hz0 hz1 hz2 rfl (by decide) v L.length (L.map (Value.int .i64)) h ⟨b,o,none⟩ M.length c (M.map (Value.int .i64))
  (by rw [List.length_map,Nat.mul_one]) (fun j u hu=>by
   rw [Addr.add_lit];obtain⟨y,hy,rfl⟩:=List.getElem?_map .. ▸ hu |> Option.map_eq_some_iff.1
   obtain⟨hj,rfl⟩:=List.getElem?_eq_some_iff.1 hy
   exact hb j hj) (fun u hu=>by obtain⟨y,_,rfl⟩:=List.mem_map.1 hu; rfl) (by unfold maxLen; omega) (by omega) hbase
 refine⟨v',w',e1,?_,e3⟩;unfold Ints;rw [List.length_append,List.map_append];exact e2
theorem append_row8 (w:World)(base base':Nat)(v u:Value)(L M:List Int)(hv:Ints w base v L)(hu:Ints w base' u M)(hn:L.length + M.length < 1000000)(hbase:base≤w.heap.size):
  ∃ v' w',(Builtin.append_ #[57,57] 57 #[v,u]).run Tryz.prog w = .ok v' w'∧Ints w' base v' (L ++ M)∧w.grownBy w' v.ownBlock:=by
 have hnu:=ints_nums hu
 have hshape:∃ ad n m,v = .slice ad n m∧n≤m:=by
  rcases hv.2 with ⟨rfl,_⟩ | ⟨g,cap,cur,rfl,_,_,h,_⟩
  ·exact⟨none,0,0,rfl,Nat.le_refl _⟩
  ·exact⟨_,_,_,rfl,h⟩
 rcases hu.2 with ⟨rfl,hn0⟩ | ⟨g,cap,cur,rfl,_⟩
 ·obtain rfl:=List.length_eq_zero_iff.1 hn0
  obtain⟨ad,n,m,rfl,hnm⟩:=hshape;exact⟨_,w,iapp_nil w ad n m hnm 0,by simpa using hv,⟨rfl,rfl,rfl,Nat.le_refl _,fun _ _ _=>rfl⟩⟩
 ·rcases Nat.eq_zero_or_pos M.length with h0 | h0
  ·rw [h0]
   obtain rfl:=List.length_eq_zero_iff.1 h0;obtain⟨ad,n,m,rfl,hnm⟩:=hshape;exact⟨_,w,iapp_none w ad n m hnm _ _,by simpa using hv,⟨rfl,rfl,rfl,Nat.le_refl _,fun _ _ _=>rfl⟩⟩
  ·obtain⟨ad,c,g',o,e,h1⟩:=hnu
   obtain⟨e1,_,_⟩:=h1 0 h0;rw [e1] at e;injection e with e2 _ e3
   injection e2 with e2
   injection e2 with e4 e5 _
   subst e4 e3;exact append_nums8 w base v L M hv g 0 cap (fun i hi=>by rw [e5]; exact(h1 i hi).2.2) hn hbase
end Go.Proofs.YtaobiofngnfdiaaGreatDoor
