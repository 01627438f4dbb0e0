/-
 The document's example of a tree.
-/
import Derived.Test.YtlpabcnhcbgfjaaTreeRemove
set_option maxRecDepth 100000
set_option maxHeartbeats 6400000
namespace Go.Proofs.Ytlpabcnhcbgfjaa
open Go.RowKit Go.Lib
open List renaming setIfInBounds_toArray → sA, set_cons_zero → sB, set_cons_succ → sC
open BigFrame renaming wpList_want → wQ
namespace Tt
def lf (n:Int):Lf:=⟨n,z32,z32,z32⟩
end Tt
theorem lf_ok (n:Int):(Tt.lf n).Ok:=⟨rfl,rfl,rfl⟩
theorem build_lf (w:World)(n:Int):(Instr.build 36 #[(0,.int .i64 n)]).run Try.prog w = .ok (.agg (Tt.lf n).cells.toArray) w:=by kernel_rfl
section
variable {P:Program} {ops:Array Oper} {rest:List Oper} {o:Oper} {a:Act} {w w':World} {Q:Exit→Act→World→Prop}
theorem wpL_build_one1 (hw:Region.wanted o (yielded ops a.tmps) = true)(t:TypeId)(x:Operand)(ho:o.op = .build t #[(0,x)])(u r:Value)(hx:a.eval x = u)(hr:(Instr.build t #[(0,u)]).run P w = .ok r w)(hk:wpList P ops Q rest (a.put o.dst r) w):wpList P ops Q (o :: rest) a w:=by
 refine wpList_step fun K hK=>?_
 rw [if_pos hw];unfold Oper.wp execOp;simp only [ho,List.map_toArray,List.map_cons,List.map_nil,hx,Sem.run_bind,hr,Result.andThen_ok,Sem.run_pure];exact hK _ _ hk
end
theorem Mine.none (B:Nat→Prop)(w:World)(hb:∀ k,B k→k < w.heap.size):Mine B w (.slice none 0 0) (.slice none 0 0) [] [] []:=
 { lok:=fun _ h=>nomatch h
   pok:=fun _ h=>nomatch h
   lo:=OwnC.nil _ _ _ _
   len:=rfl
   po:=OwnC.nil _ _ _ _
   so:=fun _ _ _ h=>by simp at h
   dlp:=.inl rfl
   dls:=fun _ h=>nomatch h
   dps:=fun _ h=>nomatch h
   dss:=fun _ _ _ _ _ h=>by simp at h
   ol:=fun _ h=>nomatch h
   op:=fun _ h=>nomatch h
   os:=fun _ h=>nomatch h
   bnd:=hb }
theorem add_plain (B:Nat→Prop)(lv pv:Value)(L L':List Lf)(P P':List Pr)(SL:List Value)(l:Lf)(k:Nat)(w:World)(h:Mine B w lv pv L P SL)(hlo:l.Ok)(hr:Tt.right L P = true)(hs:∀ p∈P,p.set = false)(hl:∀ p∈P,p.loose.length≤1000)(h1:1≤l.name)(h2:l.name≤64)(hix:Tt.index L l.name = -1)(hfb:Tt.firstBlank L = k)(hk:k≠64)(e1:Tt.addL L l = L')(e2:Tt.addP L P = P'):
  Calls Try.prog 9 #[.agg #[lv,pv],.agg l.cells.toArray] w fun e w'=>∃ lv' pv',e = .returned (.tuple #[.agg #[lv',pv'],.int .i64 (k:Int),.int .i64 0])∧Kept w.heap.size w.heap.size w w'∧∃ SL,Mine (fun k=>k < w.heap.size) w' lv' pv' L' P' SL:=by
 subst hfb e1 e2;have hr2:=hr;simp only [Tt.right,Bool.and_eq_true,decide_eq_true_eq] at hr2;exact add_ok lv pv L P l w h.lvs h.pts (by omega) (by omega) hl hlo hr h1 h2 hix hk (fun _ p=>p.set = false) hs rfl (fun j p hp=>⟨hp,by unfold Tt.loosened; rw [hp]; exact hp⟩) (loosen_unset _)
theorem remove_plain (B:Nat→Prop)(lv pv:Value)(L L':List Lf)(P P':List Pr)(SL:List Value)(k:Nat)(w:World)(h:Mine B w lv pv L P SL)(hr:Tt.right L P = true)(hl:∀ p∈P,p.loose.length≤1000)(hk:k < L.length)(hlk:Tt.lacks L P (k:Int) = 0)(e1:Tt.remL L k = L')(e2:Tt.remP L P k = P'):
  Calls Try.prog 10 #[.agg #[lv,pv],.int .i64 (k:Int)] w fun e w'=>∃ lv' pv',e = .returned (.tuple #[.agg #[lv',pv'],.int .i64 0])∧Kept w.heap.size w.heap.size w w'∧∃ SL,Mine (fun k=>k < w.heap.size) w' lv' pv' L' P' SL:=by
 subst e1 e2;have hr2:=hr;simp only [Tt.right,Bool.and_eq_true,decide_eq_true_eq] at hr2;exact remove_ok lv pv L P k w h.lvs h.pts (by omega) (by omega) hl hk hr2.2.1 hlk
namespace Tt
def trees:Nat→List Lf × List Pr
 | 0=>([],[])
 | 1=>([lf 5],[])
 | 2=>([lf 5,lf 2],[Pr.zero])
 | 3=>([lf 5,lf 2,lf 9],[Pr.zero,Pr.zero])
 | 4=>([lf 5,Lf.zero,lf 9],[Pr.zero,Pr.zero])
 | 5=>([lf 5,lf 7,lf 9],[Pr.zero,Pr.zero])
 | _=>([lf 5,lf 7],[Pr.zero])
end Tt
theorem adds_awake (i j:Nat)(n:Int)(k:Nat)(B:Nat→Prop)(lv pv:Value)(SL:List Value)(w:World)(h:Mine B w lv pv (Tt.trees i).1 (Tt.trees i).2 SL)(hc:(i = 0∧j = 1∧n = 5∧k = 0)∨(i = 1∧j = 2∧n = 2∧k = 1)∨(i = 2∧j = 3∧n = 9∧k = 2)∨(i = 4∧j = 5∧n = 7∧k = 1)):
  Calls Try.prog 9 #[.agg #[lv,pv],.agg (Tt.lf n).cells.toArray] w fun e w'=>∃ lv' pv',e = .returned (.tuple #[.agg #[lv',pv'],.int .i64 (k:Int),.int .i64 0])∧Kept w.heap.size w.heap.size w w'∧∃ SL,Mine (fun k=>k < w.heap.size) w' lv' pv' (Tt.trees j).1 (Tt.trees j).2 SL:=by
 rcases hc with ⟨rfl,rfl,rfl,rfl⟩ | ⟨rfl,rfl,rfl,rfl⟩ | ⟨rfl,rfl,rfl,rfl⟩ | ⟨rfl,rfl,rfl,rfl⟩
 ·exact add_plain B lv pv _ _ _ _ SL _ _ w h (lf_ok _) (by kernel_rfl) (fun _ h=>nomatch h) (fun _ h=>nomatch h) (by decide) (by decide) (by kernel_rfl) (by kernel_rfl) (by decide) (by kernel_rfl) (by kernel_rfl)
 ·exact add_plain B lv pv _ _ _ _ SL _ _ w h (lf_ok _) (by kernel_rfl) (fun _ h=>nomatch h) (fun _ h=>nomatch h) (by decide) (by decide) (by kernel_rfl) (by kernel_rfl) (by decide) (by kernel_rfl) (by kernel_rfl)
 ·exact add_plain B lv pv _ _ _ _ SL _ _ w h (lf_ok _) (by kernel_rfl) (fun p h=>by rw [List.mem_singleton.1 h]; rfl) (fun p h=>by rw [List.mem_singleton.1 h]; exact Nat.zero_le _) (by decide) (by decide) (by kernel_rfl) (by kernel_rfl) (by decide) (by kernel_rfl) (by kernel_rfl)
 ·have hz:∀ p∈(Tt.trees 4).2,p = Pr.zero:=fun p h=>by
   rcases List.mem_cons.1 h with h | h
   ·exact h
   ·exact List.mem_singleton.1 h
  exact add_plain B lv pv _ _ _ _ SL _ _ w h (lf_ok _) (by kernel_rfl) (fun p h=>by rw [hz p h]; rfl) (fun p h=>by rw [hz p h]; exact Nat.zero_le _) (by decide) (by decide) (by kernel_rfl) (by kernel_rfl) (by decide) (by kernel_rfl) (by kernel_rfl)
theorem removes_awake (i j k:Nat)(B:Nat→Prop)(lv pv:Value)(SL:List Value)(w:World)(h:Mine B w lv pv (Tt.trees i).1 (Tt.trees i).2 SL)(hc:(i = 3∧j = 4∧k = 1)∨(i = 5∧j = 6∧k = 2)):
  Calls Try.prog 10 #[.agg #[lv,pv],.int .i64 (k:Int)] w fun e w'=>∃ lv' pv',e = .returned (.tuple #[.agg #[lv',pv'],.int .i64 0])∧Kept w.heap.size w.heap.size w w'∧∃ SL,Mine (fun k=>k < w.heap.size) w' lv' pv' (Tt.trees j).1 (Tt.trees j).2 SL:=by
 rcases hc with ⟨rfl,rfl,rfl⟩ | ⟨rfl,rfl,rfl⟩
 ·have hz:∀ p∈(Tt.trees 3).2,p = Pr.zero:=fun p h=>by
   rcases List.mem_cons.1 h with h | h
   ·exact h
   ·exact List.mem_singleton.1 h
  exact remove_plain B lv pv _ _ _ _ SL _ w h (by kernel_rfl) (fun p h=>by rw [hz p h]; exact Nat.zero_le _) (by decide) (by kernel_rfl) (by kernel_rfl) (by kernel_rfl)
 ·have hz:∀ p∈(Tt.trees 5).2,p = Pr.zero:=fun p h=>by
   rcases List.mem_cons.1 h with h | h
   ·exact h
   ·exact List.mem_singleton.1 h
  exact remove_plain B lv pv _ _ _ _ SL _ w h (by kernel_rfl) (fun p h=>by rw [hz p h]; exact Nat.zero_le _) (by decide) (by kernel_rfl) (by kernel_rfl) (by kernel_rfl)
theorem awake_calls8 (w:World):Calls Try.prog 4 #[] w fun e w'=>e = .returned (.bool true)∧Kept w.heap.size w.heap.size w w':=by
 have k1:=kA w (.cells #[.slice none 0 0,.slice none 0 0] 27)
 have t1:=heap_new w (.cells #[.slice none 0 0,.slice none 0 0] 27)
 have s1:(w.alloc (.cells #[.slice none 0 0,.slice none 0 0] 27)).heap.size = w.heap.size + 1:=by simp
 go_enter Try.func4,Try.ntmps4
 go_upto_region 2 with fail
 generalize w.alloc (.cells #[.slice none 0 0,.slice none 0 0] 27) = w1 at k1 t1 s1 ⊢
 obtain⟨tb,htb⟩:∃ tb,tb = w.heap.size:=⟨_,rfl⟩;rw [← htb] at t1
 (try rw [← htb])
 have HTB:=hid (show ¬ tb < w.heap.size by omega)
 have M1:=hid (Mine.none (fun k=>k = tb) w1 (fun k e=>by omega))
 have K1:=hid k1;have T1:=hid t1;clear k1 t1 s1 htb;go_wp2
 go_loopw [12] (fun s12 wr=>∃ i:Nat,∃ lv pv,s12 = .int .i64 (i:Int)∧Hid (i≤3)∧Hid (Kept w.heap.size w.heap.size w wr)∧Hid (wr.heap[tb]? = some (.cells #[lv,pv] 27 (0,0)))∧∃ SL,Hid (Mine (fun k=>k = tb) wr lv pv (Tt.trees i).1 (Tt.trees i).2 SL)) (fun s12 _=>3 - (RowKit.intOf s12).toNat)
 case atStart=>exact⟨0,_,_,rfl,hid (by decide),K1,T1,[],M1⟩
 case round=>
  obtain⟨i,lv,pv,rfl,hi,HK,HT,SL,HM⟩:=hrel;obtain⟨lad,lc,hlv⟩:=HM.out.lvs.shape;obtain⟨pad,pc,hpv⟩:=HM.out.pts.shape;subst hlv hpv;obtain⟨ln,hln⟩:∃ ln,ln = (Tt.trees i).1.length:=⟨_,rfl⟩;obtain⟨pn,hpn⟩:∃ pn,pn = (Tt.trees i).2.length:=⟨_,rfl⟩;rw [← hln,← hpn] at HT HM;have HLN:=hid hln;have HPN:=hid hpn;clear hln hpn;have h4:i = 0∨i = 1∨i = 2∨i = 3:=by have:=hi.out; omega
  clear hi
  rcases h4 with rfl | rfl | rfl | rfl
  ·have HAD:=hid (fun B lv pv SL w h=>adds_awake 0 1 5 0 B lv pv SL w h (.inl ⟨rfl,rfl,rfl,rfl⟩))
   obtain⟨D,hD⟩:∃ D,D = (Tt.lf 5).cells.toArray:=⟨_,rfl⟩;have hbl:=fun w=>build_lf w 5
   rw [← hD] at hbl;have HBL:=hid hbl;have HAD2:=hid (HAD.out (fun k=>k = tb) (.slice lad ln lc) (.slice pad pn pc) SL wr HM.out)
   rw [← hD] at HAD2;clear hD hbl;have hix:(Instr.index 39 (.agg #[.int .i64 5,.int .i64 2,.int .i64 9]) (.int .i64 0)).run Try.prog wr = .ok (.int .i64 5) wr:=by kernel_rfl
   go_upto_region 7 with fail
   clear hix;refine wp_region_lit ?_;refine @wpList_load_known _ _ _ _ _ _ _ ?_ 27 (.tmp 1) rfl (tb) (0) rfl (.agg #[.slice lad ln lc,.slice pad pn pc]) (run_loadVar_row wr tb 27 27 _ (0,0) _ HT.out Try.underlying27 rfl treeInfo) ?_;kernel_rfl
   simp only [Act.put,sA,sB,sC];refine @wQ _ _ _ _ _ _ _ ?_ ?_;kernel_rfl;intro K hK;go_simp;refine hK _ _ ?_;clear hK K;refine @wpL_build_one1 _ _ _ _ _ _ _ ?_ 36 _ rfl (.int .i64 5) (.agg D) rfl (HBL.out _) ?_;kernel_rfl
   simp only [Act.put,sA,sB,sC];refine @wQ _ _ _ _ _ _ _ ?_ ?_;kernel_rfl;intro K hK;go_simp;go_at_call 9
   refine(HAD2.out).mono ?_;rintro e w2 ⟨lv2,pv2,rfl,k2,SL2,m2⟩;obtain⟨lad2,lc2,rfl⟩:=m2.lvs.shape;obtain⟨pad2,pc2,rfl⟩:=m2.pts.shape;obtain⟨ln2,hln2⟩:∃ ln2,ln2 = (Tt.trees 1).1.length:=⟨_,rfl⟩;obtain⟨pn2,hpn2⟩:∃ pn2,pn2 = (Tt.trees 1).2.length:=⟨_,rfl⟩;rw [← hln2,← hpn2] at m2 ⊢;refine hK _ _ ?_;clear hK K;have K2:=hid (HK.out.next1 k2);have T2:=hid (rk HT.out k2);have M2:=hid (m2.mono (B':=fun k=>k = tb) (fun k e=>by rw [e]; exact lt_of_block HT.out))
   clear hln2 hpn2 k2 m2;iterate 4 (refine @wQ _ _ _ _ _ _ _ ?_ ?_;kernel_rfl;intro K hK;go_simp;refine hK _ _ ?_;clear hK K)
   refine wpList_store_row rfl 27 _ _ rfl (tb) #[.slice lad2 ln2 lc2,.slice pad2 pn2 pc2] rfl rfl 27 #[.slice lad ln lc,.slice pad pn pc] T2.out treeInfo rfl (tree_all _ _ _ _ _ _) ?_
   simp only [Act.put];have T3:=hid (setRow_heap w2 tb _ #[.slice lad2 ln2 lc2,.slice pad2 pn2 pc2] _ _ T2.out);have g3:=grown_setRow w2 tb #[.slice lad2 ln2 lc2,.slice pad2 pn2 pc2];have M3:=hid (M2.out.aside (b:=tb) rfl g3);have K3:=hid (K2.out.grown g3 K2.out.size (fun k e=>by cases e; exact Nat.le_of_not_lt HTB.out))
   generalize w2.setRow tb #[.slice lad2 ln2 lc2,.slice pad2 pn2 pc2] = w3 at T3 g3 M3 K3 ⊢;clear g3;iterate 2 (refine @wQ _ _ _ _ _ _ _ ?_ ?_;kernel_rfl;intro K hK;go_simp;refine hK _ _ ?_;clear hK K)
   go_wp2
   go_roundw
   case rel=>exact⟨1,_,_,by simp,hid (by decide),K3,T3,_,M3⟩
   case measure=>simp [RowKit.intOf]
  ·have HAD:=hid (fun B lv pv SL w h=>adds_awake 1 2 2 1 B lv pv SL w h (.inr (.inl ⟨rfl,rfl,rfl,rfl⟩)))
   obtain⟨D,hD⟩:∃ D,D = (Tt.lf 2).cells.toArray:=⟨_,rfl⟩;have hbl:=fun w=>build_lf w 2
   rw [← hD] at hbl;have HBL:=hid hbl;have HAD2:=hid (HAD.out (fun k=>k = tb) (.slice lad ln lc) (.slice pad pn pc) SL wr HM.out)
   rw [← hD] at HAD2;clear hD hbl;have hix:(Instr.index 39 (.agg #[.int .i64 5,.int .i64 2,.int .i64 9]) (.int .i64 1)).run Try.prog wr = .ok (.int .i64 2) wr:=by kernel_rfl
   go_upto_region 7 with fail
   clear hix;refine wp_region_lit ?_;refine @wpList_load_known _ _ _ _ _ _ _ ?_ 27 (.tmp 1) rfl (tb) (0) rfl (.agg #[.slice lad ln lc,.slice pad pn pc]) (run_loadVar_row wr tb 27 27 _ (0,0) _ HT.out Try.underlying27 rfl treeInfo) ?_;kernel_rfl
   simp only [Act.put,sA,sB,sC];refine @wQ _ _ _ _ _ _ _ ?_ ?_;kernel_rfl;intro K hK;go_simp;refine hK _ _ ?_;clear hK K;refine @wpL_build_one1 _ _ _ _ _ _ _ ?_ 36 _ rfl (.int .i64 2) (.agg D) rfl (HBL.out _) ?_;kernel_rfl
   simp only [Act.put,sA,sB,sC];refine @wQ _ _ _ _ _ _ _ ?_ ?_;kernel_rfl;intro K hK;go_simp;go_at_call 9
   refine(HAD2.out).mono ?_;rintro e w2 ⟨lv2,pv2,rfl,k2,SL2,m2⟩;obtain⟨lad2,lc2,rfl⟩:=m2.lvs.shape;obtain⟨pad2,pc2,rfl⟩:=m2.pts.shape;obtain⟨ln2,hln2⟩:∃ ln2,ln2 = (Tt.trees 2).1.length:=⟨_,rfl⟩;obtain⟨pn2,hpn2⟩:∃ pn2,pn2 = (Tt.trees 2).2.length:=⟨_,rfl⟩;rw [← hln2,← hpn2] at m2 ⊢;refine hK _ _ ?_;clear hK K;have K2:=hid (HK.out.next1 k2);have T2:=hid (rk HT.out k2);have M2:=hid (m2.mono (B':=fun k=>k = tb) (fun k e=>by rw [e]; exact lt_of_block HT.out))
   clear hln2 hpn2 k2 m2;iterate 4 (refine @wQ _ _ _ _ _ _ _ ?_ ?_;kernel_rfl;intro K hK;go_simp;refine hK _ _ ?_;clear hK K)
   refine wpList_store_row rfl 27 _ _ rfl (tb) #[.slice lad2 ln2 lc2,.slice pad2 pn2 pc2] rfl rfl 27 #[.slice lad ln lc,.slice pad pn pc] T2.out treeInfo rfl (tree_all _ _ _ _ _ _) ?_
   simp only [Act.put];have T3:=hid (setRow_heap w2 tb _ #[.slice lad2 ln2 lc2,.slice pad2 pn2 pc2] _ _ T2.out);have g3:=grown_setRow w2 tb #[.slice lad2 ln2 lc2,.slice pad2 pn2 pc2];have M3:=hid (M2.out.aside (b:=tb) rfl g3);have K3:=hid (K2.out.grown g3 K2.out.size (fun k e=>by cases e; exact Nat.le_of_not_lt HTB.out))
   generalize w2.setRow tb #[.slice lad2 ln2 lc2,.slice pad2 pn2 pc2] = w3 at T3 g3 M3 K3 ⊢;clear g3;iterate 2 (refine @wQ _ _ _ _ _ _ _ ?_ ?_;kernel_rfl;intro K hK;go_simp;refine hK _ _ ?_;clear hK K)
   go_wp2
   go_roundw
   case rel=>exact⟨2,_,_,by simp,hid (by decide),K3,T3,_,M3⟩
   case measure=>simp [RowKit.intOf]
  ·have HAD:=hid (fun B lv pv SL w h=>adds_awake 2 3 9 2 B lv pv SL w h (.inr (.inr (.inl ⟨rfl,rfl,rfl,rfl⟩))))
   obtain⟨D,hD⟩:∃ D,D = (Tt.lf 9).cells.toArray:=⟨_,rfl⟩;have hbl:=fun w=>build_lf w 9
   rw [← hD] at hbl;have HBL:=hid hbl;have HAD2:=hid (HAD.out (fun k=>k = tb) (.slice lad ln lc) (.slice pad pn pc) SL wr HM.out)
   rw [← hD] at HAD2;clear hD hbl;have hix:(Instr.index 39 (.agg #[.int .i64 5,.int .i64 2,.int .i64 9]) (.int .i64 2)).run Try.prog wr = .ok (.int .i64 9) wr:=by kernel_rfl
   go_upto_region 7 with fail
   clear hix;refine wp_region_lit ?_;refine @wpList_load_known _ _ _ _ _ _ _ ?_ 27 (.tmp 1) rfl (tb) (0) rfl (.agg #[.slice lad ln lc,.slice pad pn pc]) (run_loadVar_row wr tb 27 27 _ (0,0) _ HT.out Try.underlying27 rfl treeInfo) ?_;kernel_rfl
   simp only [Act.put,sA,sB,sC];refine @wQ _ _ _ _ _ _ _ ?_ ?_;kernel_rfl;intro K hK;go_simp;refine hK _ _ ?_;clear hK K;refine @wpL_build_one1 _ _ _ _ _ _ _ ?_ 36 _ rfl (.int .i64 9) (.agg D) rfl (HBL.out _) ?_;kernel_rfl
   simp only [Act.put,sA,sB,sC];refine @wQ _ _ _ _ _ _ _ ?_ ?_;kernel_rfl;intro K hK;go_simp;go_at_call 9
   refine(HAD2.out).mono ?_;rintro e w2 ⟨lv2,pv2,rfl,k2,SL2,m2⟩;obtain⟨lad2,lc2,rfl⟩:=m2.lvs.shape;obtain⟨pad2,pc2,rfl⟩:=m2.pts.shape;obtain⟨ln2,hln2⟩:∃ ln2,ln2 = (Tt.trees 3).1.length:=⟨_,rfl⟩;obtain⟨pn2,hpn2⟩:∃ pn2,pn2 = (Tt.trees 3).2.length:=⟨_,rfl⟩;rw [← hln2,← hpn2] at m2 ⊢;refine hK _ _ ?_;clear hK K;have K2:=hid (HK.out.next1 k2);have T2:=hid (rk HT.out k2);have M2:=hid (m2.mono (B':=fun k=>k = tb) (fun k e=>by rw [e]; exact lt_of_block HT.out))
   clear hln2 hpn2 k2 m2;iterate 4 (refine @wQ _ _ _ _ _ _ _ ?_ ?_;kernel_rfl;intro K hK;go_simp;refine hK _ _ ?_;clear hK K)
   refine wpList_store_row rfl 27 _ _ rfl (tb) #[.slice lad2 ln2 lc2,.slice pad2 pn2 pc2] rfl rfl 27 #[.slice lad ln lc,.slice pad pn pc] T2.out treeInfo rfl (tree_all _ _ _ _ _ _) ?_
   simp only [Act.put];have T3:=hid (setRow_heap w2 tb _ #[.slice lad2 ln2 lc2,.slice pad2 pn2 pc2] _ _ T2.out);have g3:=grown_setRow w2 tb #[.slice lad2 ln2 lc2,.slice pad2 pn2 pc2];have M3:=hid (M2.out.aside (b:=tb) rfl g3);have K3:=hid (K2.out.grown g3 K2.out.size (fun k e=>by cases e; exact Nat.le_of_not_lt HTB.out))
   generalize w2.setRow tb #[.slice lad2 ln2 lc2,.slice pad2 pn2 pc2] = w3 at T3 g3 M3 K3 ⊢;clear g3;iterate 2 (refine @wQ _ _ _ _ _ _ _ ?_ ?_;kernel_rfl;intro K hK;go_simp;refine hK _ _ ?_;clear hK K)
   go_wp2
   go_roundw
   case rel=>exact⟨3,_,_,by simp,hid (by decide),K3,T3,_,M3⟩
   case measure=>simp [RowKit.intOf]
  ·have HRM:=hid (fun B lv pv SL w h=>removes_awake 3 4 1 B lv pv SL w h (.inl ⟨rfl,rfl,rfl⟩))
   have HAD:=hid (fun B lv pv SL w h=>adds_awake 4 5 7 1 B lv pv SL w h (.inr (.inr (.inr ⟨rfl,rfl,rfl,rfl⟩))))
   have HRN:=hid (fun B lv pv SL w h=>removes_awake 5 6 2 B lv pv SL w h (.inr ⟨rfl,rfl,rfl⟩))
   have HRM2:=hid (HRM.out (fun k=>k = tb) (.slice lad ln lc) (.slice pad pn pc) SL wr HM.out)
   clear HRM
   go_upto_region 11 with fail
   refine wp_region_lit ?_;refine @wpList_load_known _ _ _ _ _ _ _ ?_ 27 (.tmp 1) rfl (tb) (0) rfl (.agg #[.slice lad ln lc,.slice pad pn pc]) (run_loadVar_row wr tb 27 27 _ (0,0) _ HT.out Try.underlying27 rfl treeInfo) ?_;kernel_rfl
   simp only [Act.put,sA,sB,sC];refine @wQ _ _ _ _ _ _ _ ?_ ?_;kernel_rfl;intro K hK;go_simp;go_at_call 10
   refine(HRM2.out).mono ?_;rintro e w2 ⟨lv2,pv2,rfl,k2,SL2,m2⟩;obtain⟨lad2,lc2,rfl⟩:=m2.lvs.shape;obtain⟨pad2,pc2,rfl⟩:=m2.pts.shape;obtain⟨ln2,hln2⟩:∃ ln2,ln2 = (Tt.trees 4).1.length:=⟨_,rfl⟩;obtain⟨pn2,hpn2⟩:∃ pn2,pn2 = (Tt.trees 4).2.length:=⟨_,rfl⟩;rw [← hln2,← hpn2] at m2 ⊢;refine hK _ _ ?_;clear hK K;have K2:=hid (HK.out.next1 k2);have T2:=hid (rk HT.out k2);have M2:=hid (m2.mono (B':=fun k=>k = tb) (fun k e=>by rw [e]; exact lt_of_block HT.out))
   clear hln2 hpn2 k2 m2;iterate 3 (refine @wQ _ _ _ _ _ _ _ ?_ ?_;kernel_rfl;intro K hK;go_simp;refine hK _ _ ?_;clear hK K)
   refine wpList_store_row rfl 27 _ _ rfl (tb) #[.slice lad2 ln2 lc2,.slice pad2 pn2 pc2] rfl rfl 27 #[.slice lad ln lc,.slice pad pn pc] T2.out treeInfo rfl (tree_all _ _ _ _ _ _) ?_
   simp only [Act.put];have T3:=hid (setRow_heap w2 tb _ #[.slice lad2 ln2 lc2,.slice pad2 pn2 pc2] _ _ T2.out);have g3:=grown_setRow w2 tb #[.slice lad2 ln2 lc2,.slice pad2 pn2 pc2];have M3:=hid (M2.out.aside (b:=tb) rfl g3);have K3:=hid (K2.out.grown g3 K2.out.size (fun k e=>by cases e; exact Nat.le_of_not_lt HTB.out))
   generalize w2.setRow tb #[.slice lad2 ln2 lc2,.slice pad2 pn2 pc2] = w3 at T3 g3 M3 K3 ⊢;clear g3;refine @wQ _ _ _ _ _ _ _ ?_ ?_;kernel_rfl;intro K hK;go_simp;refine hK _ _ ?_;clear hK K;obtain⟨D,hD⟩:∃ D,D = (Tt.lf 7).cells.toArray:=⟨_,rfl⟩;have hbl:=fun w=>build_lf w 7
   rw [← hD] at hbl;have HBL:=hid hbl;have HAD2:=hid (HAD.out (fun k=>k = tb) (.slice lad2 ln2 lc2) (.slice pad2 pn2 pc2) SL2 w3 M3.out)
   rw [← hD] at HAD2;clear hD hbl HAD
   go_upto_region 12 with fail
   refine wp_region_lit ?_;refine @wpList_load_known _ _ _ _ _ _ _ ?_ 27 (.tmp 1) rfl (tb) (0) rfl (.agg #[.slice lad2 ln2 lc2,.slice pad2 pn2 pc2]) (run_loadVar_row w3 tb 27 27 _ (0,0) _ T3.out Try.underlying27 rfl treeInfo) ?_;kernel_rfl
   simp only [Act.put,sA,sB,sC];refine @wpL_build_one1 _ _ _ _ _ _ _ ?_ 36 _ rfl (.int .i64 7) (.agg D) rfl (HBL.out _) ?_;kernel_rfl
   simp only [Act.put,sA,sB,sC];refine @wQ _ _ _ _ _ _ _ ?_ ?_;kernel_rfl;intro K hK;go_simp;go_at_call 9
   refine(HAD2.out).mono ?_;rintro e w4 ⟨lv4,pv4,rfl,k4,SL4,m4⟩;obtain⟨lad4,lc4,rfl⟩:=m4.lvs.shape;obtain⟨pad4,pc4,rfl⟩:=m4.pts.shape;obtain⟨ln4,hln4⟩:∃ ln4,ln4 = (Tt.trees 5).1.length:=⟨_,rfl⟩;obtain⟨pn4,hpn4⟩:∃ pn4,pn4 = (Tt.trees 5).2.length:=⟨_,rfl⟩;rw [← hln4,← hpn4] at m4 ⊢;refine hK _ _ ?_;clear hK K;have K4:=hid (K3.out.next1 k4);have M4:=hid m4;clear hln4 hpn4 k4 m4;iterate 4 (refine @wQ _ _ _ _ _ _ _ ?_ ?_;kernel_rfl;intro K hK;go_simp;refine hK _ _ ?_;clear hK K)
   refine @wpL_alloc _ _ _ _ _ _ _ _ ?_ 27 rfl _ (alloc_tree _) ?_;kernel_rfl
   simp only [Act.put,sA,sB,sC];refine wpList_store_row rfl 27 _ _ rfl (w4.heap.size) #[.slice lad4 ln4 lc4,.slice pad4 pn4 pc4] rfl rfl 27 #[.slice none 0 0,.slice none 0 0] (heap_new _ _) (treeInfo) (rfl) (tree_all _ _ _ _ _ _) ?_
   simp only [Act.put];rw [World.setRow_alloc_new];have T5:=hid (heap_new w4 (.cells #[.slice lad4 ln4 lc4,.slice pad4 pn4 pc4] 27))
   have M5:=hid (M4.out.alloc (.cells #[.slice lad4 ln4 lc4,.slice pad4 pn4 pc4] 27))
   have K5:=hid (K4.out.alloc K4.out.size (.cells #[.slice lad4 ln4 lc4,.slice pad4 pn4 pc4] 27))
   obtain⟨ub,hub⟩:∃ ub,ub = w4.heap.size:=⟨_,rfl⟩;rw [← hub] at T5
   (try rw [← hub])
   generalize w4.alloc (.cells #[.slice lad4 ln4 lc4,.slice pad4 pn4 pc4] 27) = w5 at T5 M5 K5 ⊢
   clear hub;iterate 2 (refine @wQ _ _ _ _ _ _ _ ?_ ?_;kernel_rfl;intro K hK;go_simp;refine hK _ _ ?_;clear hK K)
   have HRN2:=hid (HRN.out _ (.slice lad4 ln4 lc4) (.slice pad4 pn4 pc4) SL4 w5 M5.out);clear HRN
   go_upto_region 13 with fail
   refine wp_region_lit ?_;refine @wpList_load_known _ _ _ _ _ _ _ ?_ 27 (.tmp 6) rfl (ub) (0) rfl (.agg #[.slice lad4 ln4 lc4,.slice pad4 pn4 pc4]) (run_loadVar_row w5 ub 27 27 _ (0,0) _ T5.out Try.underlying27 rfl treeInfo) ?_;kernel_rfl
   simp only [Act.put,sA,sB,sC];refine @wQ _ _ _ _ _ _ _ ?_ ?_;kernel_rfl;intro K hK;go_simp;go_at_call 10
   refine(HRN2.out).mono ?_;rintro e w6 ⟨lv6,pv6,rfl,k6,SL6,m6⟩;obtain⟨lad6,lc6,rfl⟩:=m6.lvs.shape;obtain⟨pad6,pc6,rfl⟩:=m6.pts.shape;refine hK _ _ ?_;clear hK K;have K6:=hid (K5.out.next1 k6);have M6:=hid m6;clear k6 m6;iterate 3 (refine @wQ _ _ _ _ _ _ _ ?_ ?_;kernel_rfl;intro K hK;go_simp;refine hK _ _ ?_;clear hK K)
   refine @wpL_alloc _ _ _ _ _ _ _ _ ?_ 27 rfl _ (alloc_tree _) ?_;kernel_rfl
   simp only [Act.put,sA,sB,sC];refine wpList_store_row rfl 27 _ _ rfl (w6.heap.size) #[.slice lad6 2 lc6,.slice pad6 1 pc6] rfl rfl 27 #[.slice none 0 0,.slice none 0 0] (heap_new _ _) (treeInfo) (rfl) (tree_all _ _ _ _ _ _) ?_
   simp only [Act.put];rw [World.setRow_alloc_new];have T7:=hid (heap_new w6 (.cells #[.slice lad6 2 lc6,.slice pad6 1 pc6] 27))
   have M7:=hid (M6.out.alloc (.cells #[.slice lad6 2 lc6,.slice pad6 1 pc6] 27))
   have K7:=hid (K6.out.alloc K6.out.size (.cells #[.slice lad6 2 lc6,.slice pad6 1 pc6] 27))
   obtain⟨vb,hvb⟩:∃ vb,vb = w6.heap.size:=⟨_,rfl⟩;rw [← hvb] at T7
   (try rw [← hvb])
   generalize w6.alloc (.cells #[.slice lad6 2 lc6,.slice pad6 1 pc6] 27) = w7 at T7 M7 K7 ⊢
   clear hvb;refine @wQ _ _ _ _ _ _ _ ?_ ?_;kernel_rfl;intro K hK;go_simp;refine hK _ _ ?_;clear hK K;have HRR:=hid (right_calls8 (.slice lad6 2 lc6) (.slice pad6 1 pc6) (Tt.trees 6).1 (Tt.trees 6).2 w7 M7.out.lvs M7.out.pts (by decide) (by decide) (fun p h=>by rw [List.mem_singleton.1 h]; exact Nat.zero_le _))
   rw [show Tt.right (Tt.trees 6).1 (Tt.trees 6).2 = true by kernel_rfl] at HRR
   have t0:=two_cell0 T7.out
   go_upto_region 14 with fail
   refine wp_region_lit ?_;iterate 21 (refine @wQ _ _ _ _ _ _ _ ?_ ?_;kernel_rfl;intro K hK;go_simp;refine hK _ _ ?_;clear hK K)
   refine @wpList_load_known _ _ _ _ _ _ _ ?_ 27 (.tmp 9) rfl (vb) (0) rfl (.agg #[.slice lad6 2 lc6,.slice pad6 1 pc6]) (run_loadVar_row w7 vb 27 27 _ (0,0) _ T7.out Try.underlying27 rfl treeInfo) ?_;kernel_rfl
   simp only [Act.put,sA,sB,sC];refine @wQ _ _ _ _ _ _ _ ?_ ?_;kernel_rfl;intro K hK;go_simp;go_at_call 11
   refine(HRR.out).mono ?_;rintro e w8 ⟨rfl,k8⟩;refine hK _ _ ?_;clear hK K;have K8:=hid (K7.out.next1 k8);clear k8 t0;iterate 2 (refine @wQ _ _ _ _ _ _ _ ?_ ?_;kernel_rfl;intro K hK;go_simp;refine hK _ _ ?_;clear hK K)
   go_wp2;go_ret;exact⟨rfl,K8.out⟩
end Go.Proofs.Ytlpabcnhcbgfjaa
