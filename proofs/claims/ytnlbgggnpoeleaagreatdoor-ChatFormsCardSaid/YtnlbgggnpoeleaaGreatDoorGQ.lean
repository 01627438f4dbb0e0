/-
 PprMath; PprEnd; PprFind; PprFindB: several texts in one.
-/
import Derived.Test.YtnlbgggnpoeleaaGreatDoorGD
import Derived.Test.YtnlbgggnpoeleaaGreatDoorGC
set_option maxRecDepth 100000
set_option maxHeartbeats 1600000
namespace Go.Proofs.YtnlbgggnpoeleaaGreatDoor
open Go.RowKit Go.Lib
open List renaming setIfInBounds_toArray -> sA, set_cons_zero -> sB, set_cons_succ -> sC
open BigFrame renaming wpList_want -> wQ
structure Sd where
 level:Nat
 place:Nat
 self:List UInt8
namespace Pp
def wLeft:List UInt8:=[108,101,102,116]
def wRight:List UInt8:=[114,105,103,104,116]
def wKey:List UInt8:=[107,101,121]
def left (s:Sd):Sd:=⟨s.level+1,2*s.place,Sm.sum (wLeft++s.self)⟩
def right (s:Sd):Sd:=⟨s.level+1,2*s.place+1,Sm.sum (wRight++s.self)⟩
def key (h:List UInt8):List UInt8:=Sm.sum (wKey++h)
def cells (s:Sd):List Value:=.int .i64 (s.level:Int)::.int .i64 (s.place:Int)::bY s.self
def start (bits:Nat)(s:Sd):Nat:=s.place*2 ^ (bits-s.level)
def stop (bits:Nat)(s:Sd):Nat:=(s.place+1)*2 ^ (bits-s.level)
def In (bits:Nat)(s:Sd):Prop:=s.level<=bits/\s.place<2 ^ s.level/\s.self.length=32
def Good (bits:Nat)(L:List Sd):Prop:=(∀s∈L,In bits s)/\L.Pairwise λa b=>stop bits a<=start bits b
theorem cells_length {bits:Nat}{s:Sd}(h:In bits s):(cells s).length=34:=by
 simp[cells,bZ,h.2.2]
theorem stop_le {bits:Nat}{s:Sd}(h:In bits s):stop bits s<=2 ^ bits:=by
 unfold stop
 calc (s.place+1)*2 ^ (bits-s.level)<=2 ^ s.level*2 ^ (bits-s.level):=Nat.mul_le_mul_right _ h.2.1
  _=2 ^ bits:=by rw[<-Nat.pow_add,Nat.add_sub_cancel' h.1]
theorem start_lt (bits:Nat)(s:Sd):start bits s<stop bits s:=by
 unfold start stop;rw[Nat.add_mul,Nat.one_mul];exact Nat.lt_add_of_pos_right (Nat.two_pow_pos _)
theorem left_in {bits:Nat}{s:Sd}(h:In bits s)(hl:s.level<bits):In bits (left s):=by
 refine⟨hl,?_,Qaw _⟩;have:=h.2.1;show 2*s.place<2 ^ (s.level+1);rw[Nat.pow_succ]
 omega
theorem right_in {bits:Nat}{s:Sd}(h:In bits s)(hl:s.level<bits):In bits (right s):=by
 refine⟨hl,?_,Qaw _⟩;have:=h.2.1;show 2*s.place+1<2 ^ (s.level+1);rw[Nat.pow_succ]
 omega
theorem half {bits l:Nat}(hl:l<bits):2 ^ (bits-l)=2*2 ^ (bits-(l+1)):=by
 rw[<-Nat.pow_succ']
 congr 1
 omega
theorem Qfj {bits:Nat}{s:Sd}(hl:s.level<bits):start bits (left s)=start bits s:=by
 show 2*s.place*2 ^ (bits-(s.level+1))=s.place*2 ^ (bits-s.level);rw[half hl,Nat.mul_comm 2 s.place,Nat.mul_assoc]
theorem Qd9 {bits:Nat}{s:Sd}:stop bits (left s)=start bits (right s):=rfl
theorem Qfh {bits:Nat}{s:Sd}(hl:s.level<bits):stop bits (right s)=stop bits s:=by
 show(2*s.place+1+1)*2 ^ (bits-(s.level+1))=(s.place+1)*2 ^ (bits-s.level);rw[half hl,show 2*s.place+1+1=(s.place+1)*2 by omega,Nat.mul_assoc]
end Pp
def Ss (w:World)(v:Value)(L:List Sd):Prop:=∃ad g o c,v=.slice ad L.length c/\(∀i (hi:i<L.length),ad=some ⟨g,o,none⟩/\g<w.heap.size/\w.rangeAt g (o+i*34) (Pp.cells L[i]))/\L.length<=c
theorem Ss.kept {w w':World}{v:Value}{L:List Sd}(h:Ss w v L)(k:Kept w.heap.size w.heap.size w w'):Ss w' v L:=by
 obtain⟨ad,g,o,c,rfl,h1,h2⟩:=h;refine⟨ad,g,o,c,rfl,λi hi=>?_,h2⟩
 obtain⟨a,b,d⟩:=h1 i hi;exact⟨a,zC b k.size,Qaf k d b (zD b)⟩
def RowIs (w:World)(rb bits:Nat)(sl:Value)(L:List Sd):Prop:=w.heap[rb]?=some (.cells #[.int .i64 (bits:Int),sl] 145 (0,0))/\Ss w sl L
theorem RowIs.kept {w w':World}{rb bits:Nat}{sl:Value}{L:List Sd}(h:RowIs w rb bits sl L)(k:Kept w.heap.size w.heap.size w w'):RowIs w' rb bits sl L:=
 ⟨(k.block rb (zF h.1) (zD (zF h.1))).trans h.1,h.2.kept k⟩
theorem Qwq (n:Int)(h1:1<=n)(h2:n<=32)(w:World):Calls Tryz.prog 128 #[.int .i64 n] w λe w'=>e=.returned (.bool true)/\w'=w:=by
 go_enter Tryz.func128,Tryz.ntmps128
 go_wp2;go_ret;exact⟨rfl,rfl⟩
theorem Qu6 (bits:Nat)(hb:bits<=32)(s:Sd)(hs:Pp.In bits s)(rb:Nat)(sl:Value)(w:World)(hr:w.heap[rb]?=some (.cells #[.int .i64 (bits:Int),sl] 145 (0,0))):Calls Tryz.prog 107 #[.pointer (some ⟨rb,0,none⟩),.agg (Pp.cells s).toArray] w λe w'=>e=.returned (.int .i64 (Pp.stop bits s:Int))/\Kept w.heap.size w.heap.size w w':=by
 obtain⟨C,hC⟩:∃C,C=(Pp.cells s).toArray:=⟨_,rfl⟩;rw[<-hC];obtain⟨R,hR⟩:∃R:Int,R=(Pp.stop bits s:Int):=⟨_,rfl⟩;rw[<-hR];have h32:2 ^ s.level<=2 ^ 32:=Nat.pow_le_pow_right (by decide) (Nat.le_trans hs.1 hb)
 have hpl:s.place<4294967296:=zC hs.2.1 h32
 have hw1:IntKind.i64.wrap ((s.place:Int)+1)=(s.place:Int)+1:=by
  rw[IntKind.wrap_i64]
  omega
 have hw2:IntKind.i64.wrap ((bits:Int)-(s.level:Int))=((bits-s.level:Nat):Int):=by
  have:=hs.1;rw[IntKind.wrap_i64]
  omega
 have hbd:Pp.stop bits s<=4294967296:=Nat.le_trans (Pp.stop_le hs) (Nat.pow_le_pow_right (by decide) hb)
 have hsh:IntKind.i64.wrap (((s.place:Int)+1)*2 ^ (bits-s.level))=R:=by
  have hM:((s.place:Int)+1)*2 ^ (bits-s.level)=(Pp.stop bits s:Int):=by simp[Pp.stop]
  rw[hM,IntKind.wrap_i64,hR]
  omega
 have HSH:=hid hsh;clear hsh hbd;have HC:=hid hC;have HRR:=hid hR;have HW1:=hid hw1;have HW2:=hid hw2;have HS:=hid hs;have HR:=hid hr;clear hC hR hw1 hw2 hs hr h32 hpl
 go_enter Tryz.func107,Tryz.ntmps107
 go_upto_region 1 with fail
 have hP:(w.alloc (.cells C 143)).heap[w.heap.size]?=some (.cells C 143 (0,0)):=Qaa _ _
 have k1:Kept w.heap.size w.heap.size w (w.alloc (.cells C 143)):=zI.alloc (zB _) _
 have hr1:=(k1.block rb (zF HR.out) (zD (zF HR.out))).trans HR.out;generalize w.alloc (.cells C 143)=w1 at hP k1 hr1 |-
 obtain⟨wa,hwa⟩:∃wa,wa=w.heap.size:=⟨_,rfl⟩;rw[<-hwa] at hP |-;rw[HC.out] at hP
 have hss:w1.drew.cell? ⟨wa,0,none⟩=some (.int .i64 (s.level:Int))/\w1.drew.cell? ⟨wa,1,none⟩=some (.int .i64 (s.place:Int))/\w1.drew.cell? ⟨rb,0,none⟩=some (.int .i64 (bits:Int)):=
  ⟨by rw[cell_of_row w1.drew wa 0 _ _ _ hP];rfl,by rw[cell_of_row w1.drew wa 1 _ _ _ hP];rfl,Qac (w:=w1.drew) hr1⟩
 have HK1:=hid k1;clear hP k1 hr1 hwa;refine wp_region_noPanic ?_;refine wp_region_held_drew (S:=λw'=>w'.cell? ⟨wa,0,none⟩=some (.int .i64 (s.level:Int))/\w'.cell? ⟨wa,1,none⟩=some (.int .i64 (s.place:Int))/\w'.cell? ⟨rb,0,none⟩=some (.int .i64 (bits:Int))) (by kernel_rfl) (hss) (λhH=>?_)
 refine tkA (i:=0) 5 (.pointer (some ⟨wa,1,none⟩)) rfl (.inl ⟨by kernel_rfl,λw9 hw9=>by obtain⟨c0,c1,c2⟩:=hw9;go_simp⟩) hH ?_
 simp only[sA,sB,sC];refine tkA (i:=1) 6 (.int .i64 (s.place:Int)) rfl (.inl ⟨by kernel_rfl,λw9 hw9=>by obtain⟨c0,c1,c2⟩:=hw9;go_simp⟩) hH ?_
 simp only[sA,sB,sC];refine tkA (i:=2) 7 (.int .i64 ((s.place:Int)+1)) rfl (.inl ⟨by kernel_rfl,λw9 hw9=>by obtain⟨c0,c1,c2⟩:=hw9;have hw:=HW1.out;go_simp⟩) hH ?_
 simp only[sA,sB,sC];refine tkA (i:=3) 8 (.pointer (some ⟨rb,0,none⟩)) rfl (.inl ⟨by kernel_rfl,λw9 hw9=>by obtain⟨c0,c1,c2⟩:=hw9;go_simp⟩) hH ?_
 simp only[sA,sB,sC];refine tkA (i:=4) 9 (.pointer (some ⟨rb,0,none⟩)) rfl (.inl ⟨by kernel_rfl,λw9 hw9=>by obtain⟨c0,c1,c2⟩:=hw9;go_simp⟩) hH ?_
 simp only[sA,sB,sC];refine tkA (i:=5) 10 (.pointer (some ⟨rb,0,none⟩)) rfl (.inl ⟨by kernel_rfl,λw9 hw9=>by obtain⟨c0,c1,c2⟩:=hw9;go_simp⟩) hH ?_
 simp only[sA,sB,sC];refine tkA (i:=6) 11 (.int .i64 (bits:Int)) rfl (.inl ⟨by kernel_rfl,λw9 hw9=>by obtain⟨c0,c1,c2⟩:=hw9;go_simp⟩) hH ?_
 simp only[sA,sB,sC];refine tkA (i:=7) 12 (.pointer (some ⟨wa,0,none⟩)) rfl (.inl ⟨by kernel_rfl,λw9 hw9=>by obtain⟨c0,c1,c2⟩:=hw9;go_simp⟩) hH ?_
 simp only[sA,sB,sC];refine tkA (i:=8) 13 (.int .i64 (s.level:Int)) rfl (.inl ⟨by kernel_rfl,λw9 hw9=>by obtain⟨c0,c1,c2⟩:=hw9;go_simp⟩) hH ?_
 simp only[sA,sB,sC];refine tkA (i:=9) 14 (.int .i64 ((bits-s.level:Nat):Int)) rfl (.inl ⟨by kernel_rfl,λw9 hw9=>by obtain⟨c0,c1,c2⟩:=hw9;have hw:=HW2.out;go_simp⟩) hH ?_
 simp only[sA,sB,sC];refine tkA (i:=10) 15 (.int .i64 R) rfl (.inl ⟨by kernel_rfl,λw9 hw9=>by obtain⟨c0,c1,c2⟩:=hw9;have hsh:=HSH.out;go_simp⟩) hH ?_
 simp only[sA,sB,sC];refine tkA (i:=11) 4 (.int .i64 R) rfl (.inl ⟨by kernel_rfl,λw9 hw9=>by obtain⟨c0,c1,c2⟩:=hw9;go_simp⟩) hH ?_
 simp only[sA,sB,sC];refine wpAnyH_done (by kernel_rfl) ?_ _
 refine NoPanic.normal ?_;go_wp2;go_ret;exact⟨rfl,HK1.out.drew⟩
theorem Qfz (bits:Nat)(hb:bits<=32)(s:Sd)(hs:Pp.In bits s)(rb:Nat)(sl:Value)(w:World)(hr:w.heap[rb]?=some (.cells #[.int .i64 (bits:Int),sl] 145 (0,0))):Calls Tryz.prog 108 #[.pointer (some ⟨rb,0,none⟩),.agg (Pp.cells s).toArray] w λe w'=>e=.returned (.int .i64 (Pp.start bits s:Int))/\Kept w.heap.size w.heap.size w w':=by
 obtain⟨C,hC⟩:∃C,C=(Pp.cells s).toArray:=⟨_,rfl⟩;rw[<-hC];obtain⟨R,hR⟩:∃R:Int,R=(Pp.start bits s:Int):=⟨_,rfl⟩;rw[<-hR];have h32:2 ^ s.level<=2 ^ 32:=Nat.pow_le_pow_right (by decide) (Nat.le_trans hs.1 hb)
 have hpl:s.place<4294967296:=zC hs.2.1 h32
 have hw1:IntKind.i64.wrap ((s.place:Int)+1)=(s.place:Int)+1:=by
  rw[IntKind.wrap_i64]
  omega
 have hw2:IntKind.i64.wrap ((bits:Int)-(s.level:Int))=((bits-s.level:Nat):Int):=by
  have:=hs.1;rw[IntKind.wrap_i64]
  omega
 have hbd:Pp.start bits s<=4294967296:=Nat.le_trans (Nat.le_of_lt (zC (Pp.start_lt bits s) (Pp.stop_le hs))) (Nat.pow_le_pow_right (by decide) hb)
 have hsh:IntKind.i64.wrap ((s.place:Int)*2 ^ (bits-s.level))=R:=by
  have hM:(s.place:Int)*2 ^ (bits-s.level)=(Pp.start bits s:Int):=by simp[Pp.start]
  rw[hM,IntKind.wrap_i64,hR]
  omega
 have HSH:=hid hsh;clear hsh hbd;have HC:=hid hC;have HRR:=hid hR;have HW1:=hid hw1;have HW2:=hid hw2;have HS:=hid hs;have HR:=hid hr;clear hC hR hw1 hw2 hs hr h32 hpl
 go_enter Tryz.func108,Tryz.ntmps108
 go_upto_region 1 with fail
 have hP:(w.alloc (.cells C 143)).heap[w.heap.size]?=some (.cells C 143 (0,0)):=Qaa _ _
 have k1:Kept w.heap.size w.heap.size w (w.alloc (.cells C 143)):=zI.alloc (zB _) _
 have hr1:=(k1.block rb (zF HR.out) (zD (zF HR.out))).trans HR.out;generalize w.alloc (.cells C 143)=w1 at hP k1 hr1 |-
 obtain⟨wa,hwa⟩:∃wa,wa=w.heap.size:=⟨_,rfl⟩;rw[<-hwa] at hP |-;rw[HC.out] at hP
 have hss:w1.drew.cell? ⟨wa,0,none⟩=some (.int .i64 (s.level:Int))/\w1.drew.cell? ⟨wa,1,none⟩=some (.int .i64 (s.place:Int))/\w1.drew.cell? ⟨rb,0,none⟩=some (.int .i64 (bits:Int)):=
  ⟨by rw[cell_of_row w1.drew wa 0 _ _ _ hP];rfl,by rw[cell_of_row w1.drew wa 1 _ _ _ hP];rfl,Qac (w:=w1.drew) hr1⟩
 have HK1:=hid k1;clear hP k1 hr1 hwa;refine wp_region_noPanic ?_;refine wp_region_held_drew (S:=λw'=>w'.cell? ⟨wa,0,none⟩=some (.int .i64 (s.level:Int))/\w'.cell? ⟨wa,1,none⟩=some (.int .i64 (s.place:Int))/\w'.cell? ⟨rb,0,none⟩=some (.int .i64 (bits:Int))) (by kernel_rfl) (hss) (λhH=>?_)
 refine tkA (i:=0) 5 (.pointer (some ⟨wa,1,none⟩)) rfl (.inl ⟨by kernel_rfl,λw9 hw9=>by obtain⟨c0,c1,c2⟩:=hw9;go_simp⟩) hH ?_
 simp only[sA,sB,sC];refine tkA (i:=1) 6 (.int .i64 (s.place:Int)) rfl (.inl ⟨by kernel_rfl,λw9 hw9=>by obtain⟨c0,c1,c2⟩:=hw9;go_simp⟩) hH ?_
 simp only[sA,sB,sC];refine tkA (i:=2) 7 (.pointer (some ⟨rb,0,none⟩)) rfl (.inl ⟨by kernel_rfl,λw9 hw9=>by obtain⟨c0,c1,c2⟩:=hw9;go_simp⟩) hH ?_
 simp only[sA,sB,sC];refine tkA (i:=3) 8 (.pointer (some ⟨rb,0,none⟩)) rfl (.inl ⟨by kernel_rfl,λw9 hw9=>by obtain⟨c0,c1,c2⟩:=hw9;go_simp⟩) hH ?_
 simp only[sA,sB,sC];refine tkA (i:=4) 9 (.pointer (some ⟨rb,0,none⟩)) rfl (.inl ⟨by kernel_rfl,λw9 hw9=>by obtain⟨c0,c1,c2⟩:=hw9;go_simp⟩) hH ?_
 simp only[sA,sB,sC];refine tkA (i:=5) 10 (.int .i64 (bits:Int)) rfl (.inl ⟨by kernel_rfl,λw9 hw9=>by obtain⟨c0,c1,c2⟩:=hw9;go_simp⟩) hH ?_
 simp only[sA,sB,sC];refine tkA (i:=6) 11 (.pointer (some ⟨wa,0,none⟩)) rfl (.inl ⟨by kernel_rfl,λw9 hw9=>by obtain⟨c0,c1,c2⟩:=hw9;go_simp⟩) hH ?_
 simp only[sA,sB,sC];refine tkA (i:=7) 12 (.int .i64 (s.level:Int)) rfl (.inl ⟨by kernel_rfl,λw9 hw9=>by obtain⟨c0,c1,c2⟩:=hw9;go_simp⟩) hH ?_
 simp only[sA,sB,sC];refine tkA (i:=8) 13 (.int .i64 ((bits-s.level:Nat):Int)) rfl (.inl ⟨by kernel_rfl,λw9 hw9=>by obtain⟨c0,c1,c2⟩:=hw9;have hw:=HW2.out;go_simp⟩) hH ?_
 simp only[sA,sB,sC];refine tkA (i:=9) 14 (.int .i64 R) rfl (.inl ⟨by kernel_rfl,λw9 hw9=>by obtain⟨c0,c1,c2⟩:=hw9;have hsh:=HSH.out;go_simp⟩) hH ?_
 simp only[sA,sB,sC];refine tkA (i:=10) 4 (.int .i64 R) rfl (.inl ⟨by kernel_rfl,λw9 hw9=>by obtain⟨c0,c1,c2⟩:=hw9;go_simp⟩) hH ?_
 simp only[sA,sB,sC];refine wpAnyH_done (by kernel_rfl) ?_ _
 refine NoPanic.normal ?_;go_wp2;go_ret;exact⟨rfl,HK1.out.drew⟩
theorem seedInfo:(Tryz.prog.info? 143).map (·.size)=some 34:=by kernel_rfl
theorem Qcw {w:World}{b:Nat}{x:Value}{t:TypeId}(h:w.heap[b]?=some (.cells #[x] t (0,0))):w.cell? ⟨b,0,none⟩=some x:=by simp[World.cell?,h]
theorem Qjd {bits:Nat}{s:Sd}(hs:Pp.In bits s){w:World}{g o:Nat}(h:w.rangeAt g o (Pp.cells s)):(loadVar 143 ⟨g,o,none⟩).run Tryz.prog w=.ok (.agg (Pp.cells s).toArray) w:=
 run_loadVar_mid w g o 143 (Pp.cells s) _ h Tryz.underlying143 rfl (by rw[seedInfo,Pp.cells_length hs])
structure AskIs (w:World) (rb bits:Nat) (sl:Value) (L:List Sd) (va vb:Nat) (pl:Int):Prop where
 row:RowIs w rb bits sl L
 r:∃t,w.heap[va]?=some (.cells #[.pointer (some ⟨rb,0,none⟩)] t (0,0))
 p:∃t,w.heap[vb]?=some (.cells #[.int .i64 pl] t (0,0))
theorem AskIs.kept {w w':World}{rb bits:Nat}{sl:Value}{L:List Sd}{va vb:Nat}{pl:Int}(h:AskIs w rb bits sl L va vb pl)(k:Kept w.heap.size w.heap.size w w'):AskIs w' rb bits sl L va vb pl:=by
 obtain⟨h1,⟨t,h2⟩,⟨u,h3⟩⟩:=h;exact⟨h1.kept k,⟨t,rk h2 k⟩,⟨u,rk h3 k⟩⟩
theorem Qjr (bits:Nat)(hb:bits<=32)(L:List Sd)(hG:Pp.Good bits L)(rb:Nat)(sl:Value)(va vb:Nat)(pl:Int)(w:World)(hA:AskIs w rb bits sl L va vb pl)(i:Nat)(hi:i<L.length):Calls Tryz.prog 106 #[.int .i64 (i:Int),.pointer (some ⟨va,0,none⟩),.pointer (some ⟨vb,0,none⟩)] w λe w'=>e=.returned (.bool (decide (pl<(Pp.stop bits L[i]:Int))))/\Kept w.heap.size w.heap.size w w':=by
 obtain⟨ad,g,o,c,rfl,hc0,_⟩:=hA.row.2;obtain⟨rfl,_,_⟩:=hc0 i hi;have hin:=hG.1 L[i] (List.getElem_mem hi)
 have hcv:∀w',Kept w.heap.size w.heap.size w w'->w'.cell? ⟨va,0,none⟩=some (.pointer (some ⟨rb,0,none⟩))/\w'.cell? ⟨vb,0,none⟩=some (.int .i64 pl)/\w'.cell? ⟨rb,1,none⟩=some (.slice (some ⟨g,o,none⟩) L.length c):=λw' kk=>by
  have h:=hA.kept kk;obtain⟨t,h2⟩:=h.r;obtain⟨u,h3⟩:=h.p;exact⟨Qcw h2,Qcw h3,Qab h.row.1⟩
 have hld:∀w',Kept w.heap.size w.heap.size w w'->(loadVar 143 ⟨g,o+i*34,none⟩).run Tryz.prog w'=.ok (.agg (Pp.cells L[i]).toArray) w':=λw' kk=>by
  obtain⟨_,hg,hr⟩:=hc0 i hi;exact Qjd hin (Qaf kk hr hg (zD hg))
 have hen:∀w',Kept w.heap.size w.heap.size w w'->Calls Tryz.prog 107 #[.pointer (some ⟨rb,0,none⟩),.agg (Pp.cells L[i]).toArray] w' λe w2=>e=.returned (.int .i64 (Pp.stop bits L[i]:Int))/\Kept w'.heap.size w'.heap.size w' w2:=λw' kk=>Qu6 bits hb L[i] hin rb _ w' (hA.kept kk).row.1
 have hln:(i:Int)<(L.length:Int):=by omega
 have hk0:¬(i:Int)<0:=by omega
 generalize (Pp.cells L[i]).toArray=C at hld hen;generalize Pp.stop bits L[i]=E at hen |-;have HCV:=hid hcv;have HLD:=hid hld;have HEN:=hid hen;clear hcv hld hen hin hc0 hG hA hb;have KD:Kept w.heap.size w.heap.size w w.drew:=zI.drew
 go_enter Tryz.func106,Tryz.ntmps106
 go_upto_region 1 with fail
 refine wp_region_noPanic ?_;refine wp_region_held_drew (S:=λw'=>Kept w.heap.size w.heap.size w w') (by kernel_rfl) (KD) (λhH=>?_)
 refine tkA (i:=0) 5 (.pointer (some ⟨rb,0,none⟩)) rfl (.inl ⟨by kernel_rfl,λw9 hw9=>by obtain⟨cv,cp,cr⟩:=HCV.out w9 hw9;go_simp⟩) hH ?_
 simp only[sA,sB,sC];refine tkA (i:=1) 6 (.pointer (some ⟨rb,0,none⟩)) rfl (.inl ⟨by kernel_rfl,λw9 hw9=>by obtain⟨cv,cp,cr⟩:=HCV.out w9 hw9;go_simp⟩) hH ?_
 simp only[sA,sB,sC];refine tkA (i:=2) 7 (.pointer (some ⟨rb,0,none⟩)) rfl (.inl ⟨by kernel_rfl,λw9 hw9=>by obtain⟨cv,cp,cr⟩:=HCV.out w9 hw9;go_simp⟩) hH ?_
 simp only[sA,sB,sC];refine tkA (i:=3) 8 (.pointer (some ⟨rb,1,none⟩)) rfl (.inl ⟨by kernel_rfl,λw9 hw9=>by obtain⟨cv,cp,cr⟩:=HCV.out w9 hw9;go_simp⟩) hH ?_
 simp only[sA,sB,sC];refine tkA (i:=4) 9 (.slice (some ⟨g,o,none⟩) L.length c) rfl (.inl ⟨by kernel_rfl,λw9 hw9=>by obtain⟨cv,cp,cr⟩:=HCV.out w9 hw9;go_simp⟩) hH ?_
 simp only[sA,sB,sC];refine tkA (i:=5) 10 (.int .i64 (i:Int)) rfl (.inl ⟨by kernel_rfl,λw9 hw9=>by obtain⟨cv,cp,cr⟩:=HCV.out w9 hw9;go_simp⟩) hH ?_
 simp only[sA,sB,sC];refine tkA (i:=6) 11 (.pointer (some ⟨g,o+i*34,none⟩)) rfl (.inl ⟨by kernel_rfl,λw9 hw9=>by obtain⟨cv,cp,cr⟩:=HCV.out w9 hw9;go_simp⟩) hH ?_
 simp only[sA,sB,sC];refine tkA (i:=7) 12 (.agg C) rfl (yK (by kernel_rfl) 143 _ rfl (g) (o+i*34) rfl (.agg C) (λw' hw'=>HLD.out w' hw')) hH ?_
 simp only[sA,sB,sC];refine tkA (i:=9) 14 (.int .i64 pl) rfl (.inl ⟨by kernel_rfl,λw9 hw9=>by obtain⟨cv,cp,cr⟩:=HCV.out w9 hw9;go_simp⟩) hH ?_
 simp only[sA,sB,sC];refine wpAnyH_ready (rs:=[8]) (by kernel_rfl) (by simp) ?_
 refine AllReadyH.cons rfl (λK hK=>?_) AllReadyH.nil
 rw[zG (by rfl)]
 go_simp
 go_wp2_with (go_at_call 107;refine(HEN.out _ KD).mono ?_;rintro e w2 ⟨rfl,k2⟩)
 have K2:Kept w.heap.size w.heap.size w w2:=KD.trans (k2.mono KD.size (λi hi _=>zD (zC hi KD.size)))
 refine hK.out _ _ (K2) (λhH=>?_)
 clear hK K;refine tkA (i:=10) 15 (.bool (decide (pl<(E:Int)))) rfl (.inl ⟨by kernel_rfl,λw9 hw9=>by obtain⟨cv,cp,cr⟩:=HCV.out w9 hw9;go_simp⟩) hH ?_
 simp only[sA,sB,sC];refine tkA (i:=11) 4 (.bool (decide (pl<(E:Int)))) rfl (.inl ⟨by kernel_rfl,λw9 hw9=>by obtain⟨cv,cp,cr⟩:=HCV.out w9 hw9;go_simp⟩) hH ?_
 simp only[sA,sB,sC];refine wpAnyH_done (by kernel_rfl) ?_ _
 refine NoPanic.normal ?_;go_wp2;go_ret;exact⟨rfl,K2⟩
theorem Qhq (n:Nat)(hn:n<1073741824)(p:Nat->Bool)(x y:Value)(w:World)
  (hf:∀w',Kept w.heap.size w.heap.size w w'->∀i,i<n->Calls Tryz.prog 106 #[.int .i64 (i:Int),x,y] w' λe w2=>e=.returned (.bool (p i))/\Kept w'.heap.size w'.heap.size w' w2)
  (hmono:∀a b,a<=b->b<n->p a=true->p b=true) :
  Calls Tryz.prog 105 #[.int .i64 (n:Int),.func (.func 106) #[] #[x,y]] w λe w'=>(∃r:Nat,e=.returned (.int .i64 (r:Int))/\r<=n/\(∀t,t<r->p t=false)/\∀t,r<=t->t<n->p t=true)/\Kept w.heap.size w.heap.size w w':=by
 have HF:=hid hf;have HM:=hid hmono;clear hf hmono
 go_enter Tryz.func105,Tryz.ntmps105
 go_wp2_with fail
 go_loopw [5,6] (λi j w9=>∃a b:Nat,i=.int .i64 (a:Int)/\j=.int .i64 (b:Int)/\a<=b/\b<=n/\Hid ((∀t,t<a->p t=false)/\∀t,b<=t->t<n->p t=true)/\Hid (Kept w.heap.size w.heap.size w w9)) (λi j _=>(RowKit.intOf j-RowKit.intOf i).toNat)
 case atStart=>exact⟨0,n,rfl,rfl,Nat.zero_le _,zB _,hid ⟨λt ht=>absurd ht (Nat.not_lt_zero _),λt h1 h2=>by omega⟩,hid zI⟩
 case round=>
  obtain⟨a,b,rfl,rfl,hab,hbn,hI,hK⟩:=hrel
  by_cases hlt:a<b
  ·have hlti:(a:Int)<(b:Int):=by omega
   obtain⟨h,hh⟩:∃h,h=(a+b)/2:=⟨_,rfl⟩;have hh1:a<=h:=by omega
   have hh2:h<b:=by omega
   have hhi:((a:Int)+(b:Int))/2=(h:Int):=by omega
   have hc:=HF.out wr hK.out h (by omega)
   generalize hp:p h=q at hc;have HC:=hid hc;have HP:=hid hp;have HH:=hid hh;clear hc hp hh
   cases q with
   | true=>
    go_wp2_with (go_at_call 106;refine HC.out.mono ?_;rintro e w2 ⟨rfl,k2⟩)
    exact⟨⟨a,h,rfl,rfl,hh1,by omega,hid ⟨hI.out.1,λt h1 h2=>HM.out h t h1 h2 HP.out⟩,hid (hK.out.trans (k2.mono hK.out.size (λi hi _=>by have:=hK.out.size;omega)))⟩,by simp only[RowKit.intOf];omega⟩
   | false=>
    go_wp2_with (go_at_call 106;refine HC.out.mono ?_;rintro e w2 ⟨rfl,k2⟩)
    refine⟨⟨h+1,b,by rw[Int.natCast_add];rfl,rfl,by omega,hbn,hid ⟨λt ht=>?_,hI.out.2⟩,hid (hK.out.trans (k2.mono hK.out.size (λi hi _=>by have:=hK.out.size;omega)))⟩,by simp only[RowKit.intOf];omega⟩
    cases ht2:p t with
    | false=>rfl
    | true=>
     have h3:=HM.out t h (by omega) (by omega) ht2
     rw[HP.out] at h3
     cases h3
  ·obtain rfl:a=b:=by omega
   have hd3:decide ((a:Int)<(a:Int))=false:=decide_eq_false (by omega)
   go_wp2;go_ret;exact⟨⟨a,rfl,hbn,hI.out.1,hI.out.2⟩,hK.out⟩
namespace Pp
theorem good_mono {bits:Nat}{L:List Sd}(h:Good bits L){a b:Nat}(hab:a<=b)(hb:b<L.length):stop bits (L[a]'(by omega))<=stop bits L[b]:=by
 rcases Nat.lt_or_ge a b with h1|h1
 ·exact Nat.le_trans (List.pairwise_iff_getElem.1 h.2 a b (by omega) hb h1) (Nat.le_of_lt (start_lt _ _))
 ·obtain rfl:a=b:=by omega
  exact zB _
end Pp
def asks (bits:Nat)(L:List Sd)(pl:Int)(i:Nat):Bool:=if h:i<L.length then decide (pl<(Pp.stop bits L[i]:Int)) else false
theorem Qf8 {bits:Nat}{L:List Sd}{pl:Int}{i:Nat}(h:i<L.length):asks bits L pl i=decide (pl<(Pp.stop bits L[i]:Int)):=by
 unfold asks;rw[dif_pos h]
theorem Qn5 {bits:Nat}{L:List Sd}(hG:Pp.Good bits L)(pl:Int)(a b:Nat)(hab:a<=b)(hb:b<L.length)(h:asks bits L pl a=true):asks bits L pl b=true:=by
 rw[Qf8 (by omega)] at h
 rw[Qf8 hb];have h1:=of_decide_eq_true h;have h2:=Pp.good_mono hG hab hb;exact decide_eq_true (by omega)
theorem Qq1 (bits:Nat)(hb:bits<=32)(L:List Sd)(rb:Nat)(sl:Value)(pl:Int)(w:World)(hR:RowIs w rb bits sl L)(h:pl<0\/(2 ^ bits:Nat)<=pl):Calls Tryz.prog 77 #[.pointer (some ⟨rb,0,none⟩),.int .i64 pl] w λe w'=>e=.returned (.tuple #[.int .i64 0,.int .i64 1])/\Kept w.heap.size w.heap.size w w':=by
 obtain⟨ad,g,o,c,rfl,_⟩:=hR.2;obtain⟨N,hN⟩:∃N:Nat,N=2 ^ bits:=⟨_,rfl⟩;have h32:N<=4294967296:=by rw[hN];exact Nat.pow_le_pow_right (n:=2) (by decide) hb
 have hsh:IntKind.i64.wrap ((2:Int) ^ min bits 64)=(N:Int):=by
  have hM:(2:Int) ^ bits=(N:Int):=by rw[hN];simp
  rw[Nat.min_eq_left (by omega),hM,IntKind.wrap_i64]
  omega
 rw[<-hN] at h;have HR:=hid hR;have HSH:=hid hsh;clear hR hsh h32 hb
 by_cases h0:pl<0
 ·have HLO:=hid (decide_eq_true h0)
  clear h h0 hN
  go_enter Tryz.func77,Tryz.ntmps77
  go_upto_region 1 with fail
  have hA:((w.alloc (.cells #[.pointer (some ⟨rb,0,none⟩)] 94)).alloc (.cells #[.int .i64 pl] 3)).heap[w.heap.size]?=some (.cells #[.pointer (some ⟨rb,0,none⟩)] 94 (0,0)):=heap_alloc2_old w _ _
  have hB:((w.alloc (.cells #[.pointer (some ⟨rb,0,none⟩)] 94)).alloc (.cells #[.int .i64 pl] 3)).heap[w.heap.size+1]?=some (.cells #[.int .i64 pl] 3 (0,0)):=Qaq w _ _
  have k1:Kept w.heap.size w.heap.size w ((w.alloc (.cells #[.pointer (some ⟨rb,0,none⟩)] 94)).alloc (.cells #[.int .i64 pl] 3)):=(zI.alloc (zB _) _).alloc (by simp) _
  generalize (w.alloc (.cells #[.pointer (some ⟨rb,0,none⟩)] 94)).alloc (.cells #[.int .i64 pl] 3)=w1 at hA hB k1 |-
  obtain⟨wa,hwa⟩:∃wa,wa=w.heap.size:=⟨_,rfl⟩;rw[<-hwa] at hA hB |-;have hR1:=HR.out.kept k1;have HA:=hid hA;have HBB:=hid hB;have HR1:=hid hR1;have HK1:=hid k1;have KD:Kept w1.heap.size w1.heap.size w1 w1.drew:=zI.drew
  have hcv:∀w',Kept w1.heap.size w1.heap.size w1 w'->w'.cell? ⟨wa,0,none⟩=some (.pointer (some ⟨rb,0,none⟩))/\w'.cell? ⟨wa+1,0,none⟩=some (.int .i64 pl)/\w'.cell? ⟨rb,0,none⟩=some (.int .i64 (bits:Int))/\w'.cell? ⟨rb,1,none⟩=some (.slice ad L.length c):=λw' kk=>
   ⟨Qcw (rk HA.out kk),Qcw (rk HBB.out kk),Qac (HR1.out.kept kk).1,Qab (HR1.out.kept kk).1⟩
  have HCV:=hid hcv;clear hcv hA hB k1 hR1 hwa;refine wp_region_noPanic ?_;refine wp_region_held_drew (S:=λw'=>Kept w1.heap.size w1.heap.size w1 w') (by kernel_rfl) (KD) (λhH=>?_)
  refine tkA (i:=0) 7 (.pointer (some ⟨rb,0,none⟩)) rfl (.inl ⟨by kernel_rfl,λw9 hw9=>by obtain⟨cv,cp,c0,c1⟩:=HCV.out w9 hw9;go_simp⟩) hH ?_
  simp only[sA,sB,sC];refine tkA (i:=1) 8 (.bool false) rfl (.inl ⟨by kernel_rfl,λw9 hw9=>by obtain⟨cv,cp,c0,c1⟩:=HCV.out w9 hw9;go_simp⟩) hH ?_
  simp only[sA,sB,sC];refine tkA (i:=2) 9 (.bool false) rfl (.inl ⟨by kernel_rfl,λw9 hw9=>by obtain⟨cv,cp,c0,c1⟩:=HCV.out w9 hw9;go_simp⟩) hH ?_
  simp only[sA,sB,sC];refine tkA (i:=3) 10 (.int .i64 pl) rfl (.inl ⟨by kernel_rfl,λw9 hw9=>by obtain⟨cv,cp,c0,c1⟩:=HCV.out w9 hw9;go_simp⟩) hH ?_
  simp only[sA,sB,sC];refine tkA (i:=4) 11 (.bool true) rfl (.inl ⟨by kernel_rfl,λw9 hw9=>by obtain⟨cv,cp,c0,c1⟩:=HCV.out w9 hw9;have hd:=HLO.out;go_simp⟩) hH ?_
  simp only[sA,sB,sC];refine tkA (i:=5) 12 (.bool true) rfl (.inl ⟨by kernel_rfl,λw9 hw9=>by obtain⟨cv,cp,c0,c1⟩:=HCV.out w9 hw9;go_simp⟩) hH ?_
  simp only[sA,sB,sC];refine tkA (i:=6) 13 (.bool true) rfl (.inl ⟨by kernel_rfl,λw9 hw9=>by obtain⟨cv,cp,c0,c1⟩:=HCV.out w9 hw9;go_simp⟩) hH ?_
  simp only[sA,sB,sC];refine tkA (i:=7) 14 (undef) rfl (.inr ⟨by kernel_rfl,rfl⟩) hH ?_
  simp only[sA,sB,sC];refine tkA (i:=8) 15 (undef) rfl (.inr ⟨by kernel_rfl,rfl⟩) hH ?_
  simp only[sA,sB,sC];refine tkA (i:=9) 16 (undef) rfl (.inr ⟨by kernel_rfl,rfl⟩) hH ?_
  simp only[sA,sB,sC];refine tkA (i:=10) 17 (undef) rfl (.inr ⟨by kernel_rfl,rfl⟩) hH ?_
  simp only[sA,sB,sC];refine tkA (i:=11) 18 (undef) rfl (.inr ⟨by kernel_rfl,rfl⟩) hH ?_
  simp only[sA,sB,sC];refine tkA (i:=12) 19 (undef) rfl (.inr ⟨by kernel_rfl,rfl⟩) hH ?_
  simp only[sA,sB,sC];refine tkA (i:=13) 20 (undef) rfl (.inr ⟨by kernel_rfl,rfl⟩) hH ?_
  simp only[sA,sB,sC];refine tkA (i:=14) 21 (.bool true) rfl (.inl ⟨by kernel_rfl,λw9 hw9=>by obtain⟨cv,cp,c0,c1⟩:=HCV.out w9 hw9;go_simp⟩) hH ?_
  simp only[sA,sB,sC];refine wpAnyH_done (by kernel_rfl) ?_ _
  refine NoPanic.normal ?_;go_wp2;refine bodyPost_ret (results_tmp2 rfl _ _ _) rfl ?_;exact⟨rfl,HK1.out.drew⟩
 ·have HLO:=hid (decide_eq_false h0)
  have hN2:(N:Int)<=pl:=by omega
  have HHI:=hid (decide_eq_true hN2);clear h h0 hN hN2
  go_enter Tryz.func77,Tryz.ntmps77
  go_upto_region 1 with fail
  have hA:((w.alloc (.cells #[.pointer (some ⟨rb,0,none⟩)] 94)).alloc (.cells #[.int .i64 pl] 3)).heap[w.heap.size]?=some (.cells #[.pointer (some ⟨rb,0,none⟩)] 94 (0,0)):=heap_alloc2_old w _ _
  have hB:((w.alloc (.cells #[.pointer (some ⟨rb,0,none⟩)] 94)).alloc (.cells #[.int .i64 pl] 3)).heap[w.heap.size+1]?=some (.cells #[.int .i64 pl] 3 (0,0)):=Qaq w _ _
  have k1:Kept w.heap.size w.heap.size w ((w.alloc (.cells #[.pointer (some ⟨rb,0,none⟩)] 94)).alloc (.cells #[.int .i64 pl] 3)):=(zI.alloc (zB _) _).alloc (by simp) _
  generalize (w.alloc (.cells #[.pointer (some ⟨rb,0,none⟩)] 94)).alloc (.cells #[.int .i64 pl] 3)=w1 at hA hB k1 |-
  obtain⟨wa,hwa⟩:∃wa,wa=w.heap.size:=⟨_,rfl⟩;rw[<-hwa] at hA hB |-;have hR1:=HR.out.kept k1;have HA:=hid hA;have HBB:=hid hB;have HR1:=hid hR1;have HK1:=hid k1;have KD:Kept w1.heap.size w1.heap.size w1 w1.drew:=zI.drew
  have hcv:∀w',Kept w1.heap.size w1.heap.size w1 w'->w'.cell? ⟨wa,0,none⟩=some (.pointer (some ⟨rb,0,none⟩))/\w'.cell? ⟨wa+1,0,none⟩=some (.int .i64 pl)/\w'.cell? ⟨rb,0,none⟩=some (.int .i64 (bits:Int))/\w'.cell? ⟨rb,1,none⟩=some (.slice ad L.length c):=λw' kk=>
   ⟨Qcw (rk HA.out kk),Qcw (rk HBB.out kk),Qac (HR1.out.kept kk).1,Qab (HR1.out.kept kk).1⟩
  have HCV:=hid hcv;clear hcv hA hB k1 hR1 hwa;refine wp_region_noPanic ?_;refine wp_region_held_drew (S:=λw'=>Kept w1.heap.size w1.heap.size w1 w') (by kernel_rfl) (KD) (λhH=>?_)
  refine tkA (i:=0) 7 (.pointer (some ⟨rb,0,none⟩)) rfl (.inl ⟨by kernel_rfl,λw9 hw9=>by obtain⟨cv,cp,c0,c1⟩:=HCV.out w9 hw9;go_simp⟩) hH ?_
  simp only[sA,sB,sC];refine tkA (i:=1) 8 (.bool false) rfl (.inl ⟨by kernel_rfl,λw9 hw9=>by obtain⟨cv,cp,c0,c1⟩:=HCV.out w9 hw9;go_simp⟩) hH ?_
  simp only[sA,sB,sC];refine tkA (i:=2) 9 (.bool false) rfl (.inl ⟨by kernel_rfl,λw9 hw9=>by obtain⟨cv,cp,c0,c1⟩:=HCV.out w9 hw9;go_simp⟩) hH ?_
  simp only[sA,sB,sC];refine tkA (i:=3) 10 (.int .i64 pl) rfl (.inl ⟨by kernel_rfl,λw9 hw9=>by obtain⟨cv,cp,c0,c1⟩:=HCV.out w9 hw9;go_simp⟩) hH ?_
  simp only[sA,sB,sC];refine tkA (i:=4) 11 (.bool false) rfl (.inl ⟨by kernel_rfl,λw9 hw9=>by obtain⟨cv,cp,c0,c1⟩:=HCV.out w9 hw9;have hd:=HLO.out;go_simp⟩) hH ?_
  simp only[sA,sB,sC];refine tkA (i:=5) 12 (.bool false) rfl (.inl ⟨by kernel_rfl,λw9 hw9=>by obtain⟨cv,cp,c0,c1⟩:=HCV.out w9 hw9;go_simp⟩) hH ?_
  simp only[sA,sB,sC];refine tkA (i:=6) 13 (.bool false) rfl (.inl ⟨by kernel_rfl,λw9 hw9=>by obtain⟨cv,cp,c0,c1⟩:=HCV.out w9 hw9;go_simp⟩) hH ?_
  simp only[sA,sB,sC];refine tkA (i:=7) 14 (.int .i64 pl) rfl (.inl ⟨by kernel_rfl,λw9 hw9=>by obtain⟨cv,cp,c0,c1⟩:=HCV.out w9 hw9;go_simp⟩) hH ?_
  simp only[sA,sB,sC];refine tkA (i:=8) 15 (.pointer (some ⟨rb,0,none⟩)) rfl (.inl ⟨by kernel_rfl,λw9 hw9=>by obtain⟨cv,cp,c0,c1⟩:=HCV.out w9 hw9;go_simp⟩) hH ?_
  simp only[sA,sB,sC];refine tkA (i:=9) 16 (.pointer (some ⟨rb,0,none⟩)) rfl (.inl ⟨by kernel_rfl,λw9 hw9=>by obtain⟨cv,cp,c0,c1⟩:=HCV.out w9 hw9;go_simp⟩) hH ?_
  simp only[sA,sB,sC];refine tkA (i:=10) 17 (.pointer (some ⟨rb,0,none⟩)) rfl (.inl ⟨by kernel_rfl,λw9 hw9=>by obtain⟨cv,cp,c0,c1⟩:=HCV.out w9 hw9;go_simp⟩) hH ?_
  simp only[sA,sB,sC];refine tkA (i:=11) 18 (.int .i64 (bits:Int)) rfl (.inl ⟨by kernel_rfl,λw9 hw9=>by obtain⟨cv,cp,c0,c1⟩:=HCV.out w9 hw9;go_simp⟩) hH ?_
  simp only[sA,sB,sC];refine tkA (i:=12) 19 (.int .i64 (N:Int)) rfl (.inl ⟨by kernel_rfl,λw9 hw9=>by obtain⟨cv,cp,c0,c1⟩:=HCV.out w9 hw9;have hsh:=HSH.out;go_simp⟩) hH ?_
  simp only[sA,sB,sC];refine tkA (i:=13) 20 (.bool true) rfl (.inl ⟨by kernel_rfl,λw9 hw9=>by obtain⟨cv,cp,c0,c1⟩:=HCV.out w9 hw9;have hd:=HHI.out;go_simp⟩) hH ?_
  simp only[sA,sB,sC];refine tkA (i:=14) 21 (.bool true) rfl (.inl ⟨by kernel_rfl,λw9 hw9=>by obtain⟨cv,cp,c0,c1⟩:=HCV.out w9 hw9;go_simp⟩) hH ?_
  simp only[sA,sB,sC];refine wpAnyH_done (by kernel_rfl) ?_ _
  refine NoPanic.normal ?_;go_wp2;refine bodyPost_ret (results_tmp2 rfl _ _ _) rfl ?_;exact⟨rfl,HK1.out.drew⟩
theorem Qu3 (bits:Nat)(hb:bits<=32)(L:List Sd)(rb:Nat)(sl:Value)(pl:Int)(w:World)(hR:RowIs w rb bits sl L)(hG:Pp.Good bits L)(hn:L.length<1073741824)(hp0:0<=pl)(hp1:pl<(2 ^ bits:Nat))(i:Nat)(hi:i<L.length)(h1:(Pp.start bits L[i]:Int)<=pl)(h2:pl<(Pp.stop bits L[i]:Int)):Calls Tryz.prog 77 #[.pointer (some ⟨rb,0,none⟩),.int .i64 pl] w λe w'=>e=.returned (.tuple #[.int .i64 (i:Int),.int .i64 0])/\Kept w.heap.size w.heap.size w w':=by
 obtain⟨ad,g,o,c,rfl,hc0,_⟩:=hR.2;obtain⟨N,hN⟩:∃N:Nat,N=2 ^ bits:=⟨_,rfl⟩;have h32:N<=4294967296:=by rw[hN];exact Nat.pow_le_pow_right (n:=2) (by decide) hb
 have hsh:IntKind.i64.wrap ((2:Int) ^ min bits 64)=(N:Int):=by
  have hM:(2:Int) ^ bits=(N:Int):=by rw[hN];simp
  rw[Nat.min_eq_left (by omega),hM,IntKind.wrap_i64]
  omega
 rw[<-hN] at hp1;have hlo:=decide_eq_false (show ¬pl<0 by omega)
 have hhi:=decide_eq_false (show ¬(N:Int)<=pl by omega)
 have HR:=hid hR;have HSH:=hid hsh;have HLO:=hid hlo;have HHI:=hid hhi;have HG:=hid hG;have HC0:=hid hc0;have HB:=hid hb;have HT:=hid (And.intro h1 h2);clear h1 h2;clear hR hsh h32 hlo hhi hp0 hp1 hN hG hc0 hb
 go_enter Tryz.func77,Tryz.ntmps77
 go_upto_region 1 with fail
 have hA:((w.alloc (.cells #[.pointer (some ⟨rb,0,none⟩)] 94)).alloc (.cells #[.int .i64 pl] 3)).heap[w.heap.size]?=some (.cells #[.pointer (some ⟨rb,0,none⟩)] 94 (0,0)):=heap_alloc2_old w _ _
 have hB:((w.alloc (.cells #[.pointer (some ⟨rb,0,none⟩)] 94)).alloc (.cells #[.int .i64 pl] 3)).heap[w.heap.size+1]?=some (.cells #[.int .i64 pl] 3 (0,0)):=Qaq w _ _
 have k1:Kept w.heap.size w.heap.size w ((w.alloc (.cells #[.pointer (some ⟨rb,0,none⟩)] 94)).alloc (.cells #[.int .i64 pl] 3)):=(zI.alloc (zB _) _).alloc (by simp) _
 generalize (w.alloc (.cells #[.pointer (some ⟨rb,0,none⟩)] 94)).alloc (.cells #[.int .i64 pl] 3)=w1 at hA hB k1 |-
 obtain⟨wa,hwa⟩:∃wa,wa=w.heap.size:=⟨_,rfl⟩;rw[<-hwa] at hA hB |-;have hR1:=HR.out.kept k1;have HA:=hid hA;have HBB:=hid hB;have HR1:=hid hR1;have HK1:=hid k1;have KD:Kept w1.heap.size w1.heap.size w1 w1.drew:=zI.drew
 have hcv:∀w',Kept w1.heap.size w1.heap.size w1 w'->w'.cell? ⟨wa,0,none⟩=some (.pointer (some ⟨rb,0,none⟩))/\w'.cell? ⟨wa+1,0,none⟩=some (.int .i64 pl)/\w'.cell? ⟨rb,0,none⟩=some (.int .i64 (bits:Int))/\w'.cell? ⟨rb,1,none⟩=some (.slice ad L.length c):=λw' kk=>
  ⟨Qcw (rk HA.out kk),Qcw (rk HBB.out kk),Qac (HR1.out.kept kk).1,Qab (HR1.out.kept kk).1⟩
 have HCV:=hid hcv;clear hcv hA hB k1 hR1 hwa;refine wp_region_noPanic ?_;refine wp_region_held_drew (S:=λw'=>Kept w1.heap.size w1.heap.size w1 w') (by kernel_rfl) (KD) (λhH=>?_)
 refine tkA (i:=0) 7 (.pointer (some ⟨rb,0,none⟩)) rfl (.inl ⟨by kernel_rfl,λw9 hw9=>by obtain⟨cv,cp,c0,c1⟩:=HCV.out w9 hw9;go_simp⟩) hH ?_
 simp only[sA,sB,sC];refine tkA (i:=1) 8 (.bool false) rfl (.inl ⟨by kernel_rfl,λw9 hw9=>by obtain⟨cv,cp,c0,c1⟩:=HCV.out w9 hw9;go_simp⟩) hH ?_
 simp only[sA,sB,sC];refine tkA (i:=2) 9 (.bool false) rfl (.inl ⟨by kernel_rfl,λw9 hw9=>by obtain⟨cv,cp,c0,c1⟩:=HCV.out w9 hw9;go_simp⟩) hH ?_
 simp only[sA,sB,sC];refine tkA (i:=3) 10 (.int .i64 pl) rfl (.inl ⟨by kernel_rfl,λw9 hw9=>by obtain⟨cv,cp,c0,c1⟩:=HCV.out w9 hw9;go_simp⟩) hH ?_
 simp only[sA,sB,sC];refine tkA (i:=4) 11 (.bool false) rfl (.inl ⟨by kernel_rfl,λw9 hw9=>by obtain⟨cv,cp,c0,c1⟩:=HCV.out w9 hw9;have hd:=HLO.out;go_simp⟩) hH ?_
 simp only[sA,sB,sC];refine tkA (i:=5) 12 (.bool false) rfl (.inl ⟨by kernel_rfl,λw9 hw9=>by obtain⟨cv,cp,c0,c1⟩:=HCV.out w9 hw9;go_simp⟩) hH ?_
 simp only[sA,sB,sC];refine tkA (i:=6) 13 (.bool false) rfl (.inl ⟨by kernel_rfl,λw9 hw9=>by obtain⟨cv,cp,c0,c1⟩:=HCV.out w9 hw9;go_simp⟩) hH ?_
 simp only[sA,sB,sC];refine tkA (i:=7) 14 (.int .i64 pl) rfl (.inl ⟨by kernel_rfl,λw9 hw9=>by obtain⟨cv,cp,c0,c1⟩:=HCV.out w9 hw9;go_simp⟩) hH ?_
 simp only[sA,sB,sC];refine tkA (i:=8) 15 (.pointer (some ⟨rb,0,none⟩)) rfl (.inl ⟨by kernel_rfl,λw9 hw9=>by obtain⟨cv,cp,c0,c1⟩:=HCV.out w9 hw9;go_simp⟩) hH ?_
 simp only[sA,sB,sC];refine tkA (i:=9) 16 (.pointer (some ⟨rb,0,none⟩)) rfl (.inl ⟨by kernel_rfl,λw9 hw9=>by obtain⟨cv,cp,c0,c1⟩:=HCV.out w9 hw9;go_simp⟩) hH ?_
 simp only[sA,sB,sC];refine tkA (i:=10) 17 (.pointer (some ⟨rb,0,none⟩)) rfl (.inl ⟨by kernel_rfl,λw9 hw9=>by obtain⟨cv,cp,c0,c1⟩:=HCV.out w9 hw9;go_simp⟩) hH ?_
 simp only[sA,sB,sC];refine tkA (i:=11) 18 (.int .i64 (bits:Int)) rfl (.inl ⟨by kernel_rfl,λw9 hw9=>by obtain⟨cv,cp,c0,c1⟩:=HCV.out w9 hw9;go_simp⟩) hH ?_
 simp only[sA,sB,sC];refine tkA (i:=12) 19 (.int .i64 (N:Int)) rfl (.inl ⟨by kernel_rfl,λw9 hw9=>by obtain⟨cv,cp,c0,c1⟩:=HCV.out w9 hw9;have hsh:=HSH.out;go_simp⟩) hH ?_
 simp only[sA,sB,sC];refine tkA (i:=13) 20 (.bool false) rfl (.inl ⟨by kernel_rfl,λw9 hw9=>by obtain⟨cv,cp,c0,c1⟩:=HCV.out w9 hw9;have hd:=HHI.out;go_simp⟩) hH ?_
 simp only[sA,sB,sC];refine tkA (i:=14) 21 (.bool false) rfl (.inl ⟨by kernel_rfl,λw9 hw9=>by obtain⟨cv,cp,c0,c1⟩:=HCV.out w9 hw9;go_simp⟩) hH ?_
 simp only[sA,sB,sC];refine wpAnyH_done (by kernel_rfl) ?_ _
 refine NoPanic.normal ?_
 have hsc:=Qhq L.length hn (asks bits L pl) (.pointer (some ⟨wa,0,none⟩)) (.pointer (some ⟨wa+1,0,none⟩)) w1.drew (λw' kk i hi=>by
  rw[Qf8 hi]
  exact Qjr bits HB.out L HG.out rb _ wa (wa+1) pl w' ((AskIs.kept ⟨HR1.out.kept KD,⟨_,HA.out⟩,⟨_,HBB.out⟩⟩ kk)) i hi) (Qn5 HG.out pl)
 have HSC:=hid hsc;clear hsc;obtain⟨cv,cp,c0,c1⟩:=HCV.out _ KD
 go_upto_region 3 with fail
 refine zA ?_;iterate 6(refine wW λK hK=>?_;go_simp;apply hK;clear hK K)
 refine wW λK hK=>?_;go_simp;go_at_call 105;refine HSC.out.mono ?_;rintro e w3 ⟨⟨r,rfl,hrn,hr1,hr2⟩,k3⟩
 apply hK;clear hK K;have K3:Kept w1.heap.size w1.heap.size w1 w3:=KD.trans (k3.mono KD.size (λi hi _=>zD (zC hi KD.size)))
 have KE:Kept w1.heap.size w1.heap.size w1 w3.drew:=K3.drew;clear cv cp c0 c1 k3 HSC
 have hri:r=i:=by
  have ha:asks bits L pl i=true:=by
   rw[Qf8 hi];exact decide_eq_true HT.out.2
  have h1:r<=i:=by
   rcases Nat.lt_or_ge i r with h|h
   ·rw[hr1 i h] at ha
    cases ha
   ·exact h
  rcases Nat.lt_or_ge r i with h|h
  ·have h2:=hr2 r (zB _) (by omega)
   rw[Qf8 (by omega)] at h2
   have h3:=of_decide_eq_true h2;have h4:=List.pairwise_iff_getElem.1 HG.out.2 r i (by omega) hi h
   have h5:=HT.out.1
   omega
  ·omega
 subst hri;have hrl:r<L.length:=by omega
 obtain⟨rfl,hg,hrr⟩:=HC0.out r hrl;have hin:=HG.out.1 L[r] (List.getElem_mem hrl);have hc1:=HC0.out r hrl
 have hld:∀w',Kept w1.heap.size w1.heap.size w1 w'->(loadVar 143 ⟨g,o+r*34,none⟩).run Tryz.prog w'=.ok (.agg (Pp.cells L[r]).toArray) w':=λw' kk=>by
  have kw:=HK1.out.trans (kk.mono HK1.out.size (λi hi _=>by have:=HK1.out.size;omega))
  exact Qjd hin (Qaf kw hrr hg (zD hg))
 have hst:∀w',Kept w1.heap.size w1.heap.size w1 w'->Calls Tryz.prog 108 #[.pointer (some ⟨rb,0,none⟩),.agg (Pp.cells L[r]).toArray] w' λe w2=>e=.returned (.int .i64 (Pp.start bits L[r]:Int))/\Kept w'.heap.size w'.heap.size w' w2:=λw' kk=>Qfz bits HB.out L[r] hin rb _ w' (HR1.out.kept kk).1
 have HLN:=hid (show((r:Int)<(L.length:Int))/\¬(r:Int)<0 from⟨by omega,by omega⟩)
 have HEQ:=hid (show ¬(r:Int)=(L.length:Int) by omega)
 have HGT:=hid (show ¬pl<(Pp.start bits L[r]:Int) by have:=HT.out.1;omega)
 generalize (Pp.cells L[r]).toArray=C at hld hst;generalize Pp.start bits L[r]=E at hst HGT;have HLD:=hid hld;have HST:=hid hst;clear hld hst hin hg hrr hc1;clear hr1 hr2 hrn
 go_upto_region 4 with fail
 refine wp_region_noPanic ?_;refine wp_region_held_drew (S:=λw'=>Kept w1.heap.size w1.heap.size w1 w') (by kernel_rfl) (KE) (λhH=>?_)
 refine tkA (i:=0) 29 (.int .i64 (r:Int)) rfl (.inl ⟨by kernel_rfl,λw9 hw9=>by obtain⟨cv,cp,c0,c1⟩:=HCV.out w9 hw9;go_simp⟩) hH ?_
 simp only[sA,sB,sC];refine tkA (i:=1) 30 (.pointer (some ⟨rb,0,none⟩)) rfl (.inl ⟨by kernel_rfl,λw9 hw9=>by obtain⟨cv,cp,c0,c1⟩:=HCV.out w9 hw9;go_simp⟩) hH ?_
 simp only[sA,sB,sC];refine tkA (i:=2) 31 (.pointer (some ⟨rb,0,none⟩)) rfl (.inl ⟨by kernel_rfl,λw9 hw9=>by obtain⟨cv,cp,c0,c1⟩:=HCV.out w9 hw9;go_simp⟩) hH ?_
 simp only[sA,sB,sC];refine tkA (i:=3) 32 (.pointer (some ⟨rb,1,none⟩)) rfl (.inl ⟨by kernel_rfl,λw9 hw9=>by obtain⟨cv,cp,c0,c1⟩:=HCV.out w9 hw9;go_simp⟩) hH ?_
 simp only[sA,sB,sC];refine tkA (i:=4) 33 (.slice (some ⟨g,o,none⟩) L.length c) rfl (.inl ⟨by kernel_rfl,λw9 hw9=>by obtain⟨cv,cp,c0,c1⟩:=HCV.out w9 hw9;go_simp⟩) hH ?_
 simp only[sA,sB,sC];refine tkA (i:=5) 34 (.int .i64 (L.length:Int)) rfl (.inl ⟨by kernel_rfl,λw9 hw9=>by obtain⟨cv,cp,c0,c1⟩:=HCV.out w9 hw9;go_simp⟩) hH ?_
 simp only[sA,sB,sC];refine tkA (i:=6) 35 (.bool false) rfl (.inl ⟨by kernel_rfl,λw9 hw9=>by obtain⟨cv,cp,c0,c1⟩:=HCV.out w9 hw9;have hd:=HEQ.out;go_simp⟩) hH ?_
 simp only[sA,sB,sC];refine tkA (i:=7) 36 (.bool false) rfl (.inl ⟨by kernel_rfl,λw9 hw9=>by obtain⟨cv,cp,c0,c1⟩:=HCV.out w9 hw9;go_simp⟩) hH ?_
 simp only[sA,sB,sC];refine tkA (i:=8) 37 (.pointer (some ⟨rb,0,none⟩)) rfl (.inl ⟨by kernel_rfl,λw9 hw9=>by obtain⟨cv,cp,c0,c1⟩:=HCV.out w9 hw9;go_simp⟩) hH ?_
 simp only[sA,sB,sC];refine tkA (i:=9) 38 (.pointer (some ⟨rb,0,none⟩)) rfl (.inl ⟨by kernel_rfl,λw9 hw9=>by obtain⟨cv,cp,c0,c1⟩:=HCV.out w9 hw9;go_simp⟩) hH ?_
 simp only[sA,sB,sC];refine tkA (i:=10) 39 (.pointer (some ⟨rb,0,none⟩)) rfl (.inl ⟨by kernel_rfl,λw9 hw9=>by obtain⟨cv,cp,c0,c1⟩:=HCV.out w9 hw9;go_simp⟩) hH ?_
 simp only[sA,sB,sC];refine tkA (i:=11) 40 (.pointer (some ⟨rb,1,none⟩)) rfl (.inl ⟨by kernel_rfl,λw9 hw9=>by obtain⟨cv,cp,c0,c1⟩:=HCV.out w9 hw9;go_simp⟩) hH ?_
 simp only[sA,sB,sC];refine tkA (i:=12) 41 (.slice (some ⟨g,o,none⟩) L.length c) rfl (.inl ⟨by kernel_rfl,λw9 hw9=>by obtain⟨cv,cp,c0,c1⟩:=HCV.out w9 hw9;go_simp⟩) hH ?_
 simp only[sA,sB,sC];refine tkA (i:=13) 42 (.int .i64 (r:Int)) rfl (.inl ⟨by kernel_rfl,λw9 hw9=>by obtain⟨cv,cp,c0,c1⟩:=HCV.out w9 hw9;go_simp⟩) hH ?_
 simp only[sA,sB,sC];refine tkA (i:=14) 43 (.pointer (some ⟨g,o+r*34,none⟩)) rfl (.inl ⟨by kernel_rfl,λw9 hw9=>by obtain⟨cv,cp,c0,c1⟩:=HCV.out w9 hw9;have hln:=HLN.out.1;have hk0:=HLN.out.2;go_simp⟩) hH ?_
 simp only[sA,sB,sC];refine tkA (i:=15) 44 (.agg C) rfl (yK (by kernel_rfl) 143 _ rfl (g) (o+r*34) rfl (.agg C) (λw' hw'=>HLD.out w' hw')) hH ?_
 simp only[sA,sB,sC];refine tkA (i:=17) 46 (.int .i64 pl) rfl (.inl ⟨by kernel_rfl,λw9 hw9=>by obtain⟨cv,cp,c0,c1⟩:=HCV.out w9 hw9;go_simp⟩) hH ?_
 simp only[sA,sB,sC];refine wpAnyH_ready (rs:=[16]) (by kernel_rfl) (by simp) ?_
 refine AllReadyH.cons rfl (λK hK=>?_) AllReadyH.nil
 rw[zG (by rfl)]
 go_simp
 go_wp2_with (go_at_call 108;refine(HST.out _ KE).mono ?_;rintro e w5 ⟨rfl,k5⟩)
 have K5:Kept w1.heap.size w1.heap.size w1 w5:=KE.trans (k5.mono KE.size (λi hi _=>zD (zC hi KE.size)))
 refine hK.out _ _ (K5) (λhH=>?_)
 clear hK K;refine tkA (i:=18) 47 (.bool false) rfl (.inl ⟨by kernel_rfl,λw9 hw9=>by obtain⟨cv,cp,c0,c1⟩:=HCV.out w9 hw9;have hd:=HGT.out;go_simp⟩) hH ?_
 simp only[sA,sB,sC];refine tkA (i:=19) 48 (.bool false) rfl (.inl ⟨by kernel_rfl,λw9 hw9=>by obtain⟨cv,cp,c0,c1⟩:=HCV.out w9 hw9;go_simp⟩) hH ?_
 simp only[sA,sB,sC];refine wpAnyH_done (by kernel_rfl) ?_ _
 refine NoPanic.normal ?_;go_wp2;refine bodyPost_ret (results_tmp2 rfl _ _ _) rfl ?_;exact⟨rfl,HK1.out.trans (K5.mono HK1.out.size (λi hi _=>by have:=HK1.out.size;omega))⟩
theorem Qns (bits:Nat)(hb:bits<=32)(L:List Sd)(rb:Nat)(sl:Value)(pl:Int)(w:World)(hR:RowIs w rb bits sl L)(hG:Pp.Good bits L)(hn:L.length<1073741824)(hp0:0<=pl)(hp1:pl<(2 ^ bits:Nat))(h:∀i (hi:i<L.length),¬((Pp.start bits L[i]:Int)<=pl/\pl<(Pp.stop bits L[i]:Int))):Calls Tryz.prog 77 #[.pointer (some ⟨rb,0,none⟩),.int .i64 pl] w λe w'=>e=.returned (.tuple #[.int .i64 0,.int .i64 10])/\Kept w.heap.size w.heap.size w w':=by
 obtain⟨ad,g,o,c,rfl,hc0,_⟩:=hR.2;obtain⟨N,hN⟩:∃N:Nat,N=2 ^ bits:=⟨_,rfl⟩;have h32:N<=4294967296:=by rw[hN];exact Nat.pow_le_pow_right (n:=2) (by decide) hb
 have hsh:IntKind.i64.wrap ((2:Int) ^ min bits 64)=(N:Int):=by
  have hM:(2:Int) ^ bits=(N:Int):=by rw[hN];simp
  rw[Nat.min_eq_left (by omega),hM,IntKind.wrap_i64]
  omega
 rw[<-hN] at hp1;have hlo:=decide_eq_false (show ¬pl<0 by omega)
 have hhi:=decide_eq_false (show ¬(N:Int)<=pl by omega)
 have HR:=hid hR;have HSH:=hid hsh;have HLO:=hid hlo;have HHI:=hid hhi;have HG:=hid hG;have HC0:=hid hc0;have HB:=hid hb;have HT:=hid h;clear h;clear hR hsh h32 hlo hhi hp0 hp1 hN hG hc0 hb
 go_enter Tryz.func77,Tryz.ntmps77
 go_upto_region 1 with fail
 have hA:((w.alloc (.cells #[.pointer (some ⟨rb,0,none⟩)] 94)).alloc (.cells #[.int .i64 pl] 3)).heap[w.heap.size]?=some (.cells #[.pointer (some ⟨rb,0,none⟩)] 94 (0,0)):=heap_alloc2_old w _ _
 have hB:((w.alloc (.cells #[.pointer (some ⟨rb,0,none⟩)] 94)).alloc (.cells #[.int .i64 pl] 3)).heap[w.heap.size+1]?=some (.cells #[.int .i64 pl] 3 (0,0)):=Qaq w _ _
 have k1:Kept w.heap.size w.heap.size w ((w.alloc (.cells #[.pointer (some ⟨rb,0,none⟩)] 94)).alloc (.cells #[.int .i64 pl] 3)):=(zI.alloc (zB _) _).alloc (by simp) _
 generalize (w.alloc (.cells #[.pointer (some ⟨rb,0,none⟩)] 94)).alloc (.cells #[.int .i64 pl] 3)=w1 at hA hB k1 |-
 obtain⟨wa,hwa⟩:∃wa,wa=w.heap.size:=⟨_,rfl⟩;rw[<-hwa] at hA hB |-;have hR1:=HR.out.kept k1;have HA:=hid hA;have HBB:=hid hB;have HR1:=hid hR1;have HK1:=hid k1;have KD:Kept w1.heap.size w1.heap.size w1 w1.drew:=zI.drew
 have hcv:∀w',Kept w1.heap.size w1.heap.size w1 w'->w'.cell? ⟨wa,0,none⟩=some (.pointer (some ⟨rb,0,none⟩))/\w'.cell? ⟨wa+1,0,none⟩=some (.int .i64 pl)/\w'.cell? ⟨rb,0,none⟩=some (.int .i64 (bits:Int))/\w'.cell? ⟨rb,1,none⟩=some (.slice ad L.length c):=λw' kk=>
  ⟨Qcw (rk HA.out kk),Qcw (rk HBB.out kk),Qac (HR1.out.kept kk).1,Qab (HR1.out.kept kk).1⟩
 have HCV:=hid hcv;clear hcv hA hB k1 hR1 hwa;refine wp_region_noPanic ?_;refine wp_region_held_drew (S:=λw'=>Kept w1.heap.size w1.heap.size w1 w') (by kernel_rfl) (KD) (λhH=>?_)
 refine tkA (i:=0) 7 (.pointer (some ⟨rb,0,none⟩)) rfl (.inl ⟨by kernel_rfl,λw9 hw9=>by obtain⟨cv,cp,c0,c1⟩:=HCV.out w9 hw9;go_simp⟩) hH ?_
 simp only[sA,sB,sC];refine tkA (i:=1) 8 (.bool false) rfl (.inl ⟨by kernel_rfl,λw9 hw9=>by obtain⟨cv,cp,c0,c1⟩:=HCV.out w9 hw9;go_simp⟩) hH ?_
 simp only[sA,sB,sC];refine tkA (i:=2) 9 (.bool false) rfl (.inl ⟨by kernel_rfl,λw9 hw9=>by obtain⟨cv,cp,c0,c1⟩:=HCV.out w9 hw9;go_simp⟩) hH ?_
 simp only[sA,sB,sC];refine tkA (i:=3) 10 (.int .i64 pl) rfl (.inl ⟨by kernel_rfl,λw9 hw9=>by obtain⟨cv,cp,c0,c1⟩:=HCV.out w9 hw9;go_simp⟩) hH ?_
 simp only[sA,sB,sC];refine tkA (i:=4) 11 (.bool false) rfl (.inl ⟨by kernel_rfl,λw9 hw9=>by obtain⟨cv,cp,c0,c1⟩:=HCV.out w9 hw9;have hd:=HLO.out;go_simp⟩) hH ?_
 simp only[sA,sB,sC];refine tkA (i:=5) 12 (.bool false) rfl (.inl ⟨by kernel_rfl,λw9 hw9=>by obtain⟨cv,cp,c0,c1⟩:=HCV.out w9 hw9;go_simp⟩) hH ?_
 simp only[sA,sB,sC];refine tkA (i:=6) 13 (.bool false) rfl (.inl ⟨by kernel_rfl,λw9 hw9=>by obtain⟨cv,cp,c0,c1⟩:=HCV.out w9 hw9;go_simp⟩) hH ?_
 simp only[sA,sB,sC];refine tkA (i:=7) 14 (.int .i64 pl) rfl (.inl ⟨by kernel_rfl,λw9 hw9=>by obtain⟨cv,cp,c0,c1⟩:=HCV.out w9 hw9;go_simp⟩) hH ?_
 simp only[sA,sB,sC];refine tkA (i:=8) 15 (.pointer (some ⟨rb,0,none⟩)) rfl (.inl ⟨by kernel_rfl,λw9 hw9=>by obtain⟨cv,cp,c0,c1⟩:=HCV.out w9 hw9;go_simp⟩) hH ?_
 simp only[sA,sB,sC];refine tkA (i:=9) 16 (.pointer (some ⟨rb,0,none⟩)) rfl (.inl ⟨by kernel_rfl,λw9 hw9=>by obtain⟨cv,cp,c0,c1⟩:=HCV.out w9 hw9;go_simp⟩) hH ?_
 simp only[sA,sB,sC];refine tkA (i:=10) 17 (.pointer (some ⟨rb,0,none⟩)) rfl (.inl ⟨by kernel_rfl,λw9 hw9=>by obtain⟨cv,cp,c0,c1⟩:=HCV.out w9 hw9;go_simp⟩) hH ?_
 simp only[sA,sB,sC];refine tkA (i:=11) 18 (.int .i64 (bits:Int)) rfl (.inl ⟨by kernel_rfl,λw9 hw9=>by obtain⟨cv,cp,c0,c1⟩:=HCV.out w9 hw9;go_simp⟩) hH ?_
 simp only[sA,sB,sC];refine tkA (i:=12) 19 (.int .i64 (N:Int)) rfl (.inl ⟨by kernel_rfl,λw9 hw9=>by obtain⟨cv,cp,c0,c1⟩:=HCV.out w9 hw9;have hsh:=HSH.out;go_simp⟩) hH ?_
 simp only[sA,sB,sC];refine tkA (i:=13) 20 (.bool false) rfl (.inl ⟨by kernel_rfl,λw9 hw9=>by obtain⟨cv,cp,c0,c1⟩:=HCV.out w9 hw9;have hd:=HHI.out;go_simp⟩) hH ?_
 simp only[sA,sB,sC];refine tkA (i:=14) 21 (.bool false) rfl (.inl ⟨by kernel_rfl,λw9 hw9=>by obtain⟨cv,cp,c0,c1⟩:=HCV.out w9 hw9;go_simp⟩) hH ?_
 simp only[sA,sB,sC];refine wpAnyH_done (by kernel_rfl) ?_ _
 refine NoPanic.normal ?_
 have hsc:=Qhq L.length hn (asks bits L pl) (.pointer (some ⟨wa,0,none⟩)) (.pointer (some ⟨wa+1,0,none⟩)) w1.drew (λw' kk i hi=>by
  rw[Qf8 hi]
  exact Qjr bits HB.out L HG.out rb _ wa (wa+1) pl w' ((AskIs.kept ⟨HR1.out.kept KD,⟨_,HA.out⟩,⟨_,HBB.out⟩⟩ kk)) i hi) (Qn5 HG.out pl)
 have HSC:=hid hsc;clear hsc;obtain⟨cv,cp,c0,c1⟩:=HCV.out _ KD
 go_upto_region 3 with fail
 refine zA ?_;iterate 6(refine wW λK hK=>?_;go_simp;apply hK;clear hK K)
 refine wW λK hK=>?_;go_simp;go_at_call 105;refine HSC.out.mono ?_;rintro e w3 ⟨⟨r,rfl,hrn,hr1,hr2⟩,k3⟩
 apply hK;clear hK K;have K3:Kept w1.heap.size w1.heap.size w1 w3:=KD.trans (k3.mono KD.size (λi hi _=>zD (zC hi KD.size)))
 have KE:Kept w1.heap.size w1.heap.size w1 w3.drew:=K3.drew;clear cv cp c0 c1 k3 HSC
 by_cases hre:r=L.length
 ·have HEQ:=hid (show(r:Int)=(L.length:Int) by omega)
  clear hr1 hr2 hrn hre
  go_upto_region 4 with fail
  refine wp_region_noPanic ?_;refine wp_region_held_drew (S:=λw'=>Kept w1.heap.size w1.heap.size w1 w') (by kernel_rfl) (KE) (λhH=>?_)
  refine tkA (i:=0) 29 (.int .i64 (r:Int)) rfl (.inl ⟨by kernel_rfl,λw9 hw9=>by obtain⟨cv,cp,c0,c1⟩:=HCV.out w9 hw9;go_simp⟩) hH ?_
  simp only[sA,sB,sC];refine tkA (i:=1) 30 (.pointer (some ⟨rb,0,none⟩)) rfl (.inl ⟨by kernel_rfl,λw9 hw9=>by obtain⟨cv,cp,c0,c1⟩:=HCV.out w9 hw9;go_simp⟩) hH ?_
  simp only[sA,sB,sC];refine tkA (i:=2) 31 (.pointer (some ⟨rb,0,none⟩)) rfl (.inl ⟨by kernel_rfl,λw9 hw9=>by obtain⟨cv,cp,c0,c1⟩:=HCV.out w9 hw9;go_simp⟩) hH ?_
  simp only[sA,sB,sC];refine tkA (i:=3) 32 (.pointer (some ⟨rb,1,none⟩)) rfl (.inl ⟨by kernel_rfl,λw9 hw9=>by obtain⟨cv,cp,c0,c1⟩:=HCV.out w9 hw9;go_simp⟩) hH ?_
  simp only[sA,sB,sC];refine tkA (i:=4) 33 (.slice ad L.length c) rfl (.inl ⟨by kernel_rfl,λw9 hw9=>by obtain⟨cv,cp,c0,c1⟩:=HCV.out w9 hw9;go_simp⟩) hH ?_
  simp only[sA,sB,sC];refine tkA (i:=5) 34 (.int .i64 (L.length:Int)) rfl (.inl ⟨by kernel_rfl,λw9 hw9=>by obtain⟨cv,cp,c0,c1⟩:=HCV.out w9 hw9;go_simp⟩) hH ?_
  simp only[sA,sB,sC];refine tkA (i:=6) 35 (.bool true) rfl (.inl ⟨by kernel_rfl,λw9 hw9=>by obtain⟨cv,cp,c0,c1⟩:=HCV.out w9 hw9;have hd:=HEQ.out;go_simp⟩) hH ?_
  simp only[sA,sB,sC];refine tkA (i:=7) 36 (.bool true) rfl (.inl ⟨by kernel_rfl,λw9 hw9=>by obtain⟨cv,cp,c0,c1⟩:=HCV.out w9 hw9;go_simp⟩) hH ?_
  simp only[sA,sB,sC];refine tkA (i:=8) 37 (undef) rfl (.inr ⟨by kernel_rfl,rfl⟩) hH ?_
  simp only[sA,sB,sC];refine tkA (i:=9) 38 (undef) rfl (.inr ⟨by kernel_rfl,rfl⟩) hH ?_
  simp only[sA,sB,sC];refine tkA (i:=10) 39 (undef) rfl (.inr ⟨by kernel_rfl,rfl⟩) hH ?_
  simp only[sA,sB,sC];refine tkA (i:=11) 40 (undef) rfl (.inr ⟨by kernel_rfl,rfl⟩) hH ?_
  simp only[sA,sB,sC];refine tkA (i:=12) 41 (undef) rfl (.inr ⟨by kernel_rfl,rfl⟩) hH ?_
  simp only[sA,sB,sC];refine tkA (i:=13) 42 (undef) rfl (.inr ⟨by kernel_rfl,rfl⟩) hH ?_
  simp only[sA,sB,sC];refine tkA (i:=14) 43 (undef) rfl (.inr ⟨by kernel_rfl,rfl⟩) hH ?_
  simp only[sA,sB,sC];refine tkA (i:=15) 44 (undef) rfl (.inr ⟨by kernel_rfl,rfl⟩) hH ?_
  simp only[sA,sB,sC];refine tkA (i:=16) 45 (undef) rfl (.inr ⟨by kernel_rfl,rfl⟩) hH ?_
  simp only[sA,sB,sC];refine tkA (i:=17) 46 (undef) rfl (.inr ⟨by kernel_rfl,rfl⟩) hH ?_
  simp only[sA,sB,sC];refine tkA (i:=18) 47 (undef) rfl (.inr ⟨by kernel_rfl,rfl⟩) hH ?_
  simp only[sA,sB,sC];refine tkA (i:=19) 48 (.bool true) rfl (.inl ⟨by kernel_rfl,λw9 hw9=>by obtain⟨cv,cp,c0,c1⟩:=HCV.out w9 hw9;go_simp⟩) hH ?_
  simp only[sA,sB,sC];refine wpAnyH_done (by kernel_rfl) ?_ _
  refine NoPanic.normal ?_;go_wp2;refine bodyPost_ret (results_tmp2 rfl _ _ _) rfl ?_;exact⟨rfl,HK1.out.trans (KE.mono HK1.out.size (λi hi _=>by have:=HK1.out.size;omega))⟩
 have hrl2:r<L.length:=by omega
 have hbe:pl<(Pp.start bits L[r]:Int):=by
  have h2:=hr2 r (zB _) hrl2;rw[Qf8 hrl2] at h2;have h3:=of_decide_eq_true h2;have h4:=HT.out r hrl2
  omega
 have hrl:r<L.length:=by omega
 obtain⟨rfl,hg,hrr⟩:=HC0.out r hrl;have hin:=HG.out.1 L[r] (List.getElem_mem hrl);have hc1:=HC0.out r hrl
 have hld:∀w',Kept w1.heap.size w1.heap.size w1 w'->(loadVar 143 ⟨g,o+r*34,none⟩).run Tryz.prog w'=.ok (.agg (Pp.cells L[r]).toArray) w':=λw' kk=>by
  have kw:=HK1.out.trans (kk.mono HK1.out.size (λi hi _=>by have:=HK1.out.size;omega))
  exact Qjd hin (Qaf kw hrr hg (zD hg))
 have hst:∀w',Kept w1.heap.size w1.heap.size w1 w'->Calls Tryz.prog 108 #[.pointer (some ⟨rb,0,none⟩),.agg (Pp.cells L[r]).toArray] w' λe w2=>e=.returned (.int .i64 (Pp.start bits L[r]:Int))/\Kept w'.heap.size w'.heap.size w' w2:=λw' kk=>Qfz bits HB.out L[r] hin rb _ w' (HR1.out.kept kk).1
 have HLN:=hid (show((r:Int)<(L.length:Int))/\¬(r:Int)<0 from⟨by omega,by omega⟩)
 have HEQ:=hid (show ¬(r:Int)=(L.length:Int) by omega)
 have HGT:=hid hbe;clear hbe;generalize (Pp.cells L[r]).toArray=C at hld hst;generalize Pp.start bits L[r]=E at hst HGT;have HLD:=hid hld;have HST:=hid hst;clear hld hst hin hg hrr hc1;clear hr1 hr2 hrn hre hrl2
 go_upto_region 4 with fail
 refine wp_region_noPanic ?_;refine wp_region_held_drew (S:=λw'=>Kept w1.heap.size w1.heap.size w1 w') (by kernel_rfl) (KE) (λhH=>?_)
 refine tkA (i:=0) 29 (.int .i64 (r:Int)) rfl (.inl ⟨by kernel_rfl,λw9 hw9=>by obtain⟨cv,cp,c0,c1⟩:=HCV.out w9 hw9;go_simp⟩) hH ?_
 simp only[sA,sB,sC];refine tkA (i:=1) 30 (.pointer (some ⟨rb,0,none⟩)) rfl (.inl ⟨by kernel_rfl,λw9 hw9=>by obtain⟨cv,cp,c0,c1⟩:=HCV.out w9 hw9;go_simp⟩) hH ?_
 simp only[sA,sB,sC];refine tkA (i:=2) 31 (.pointer (some ⟨rb,0,none⟩)) rfl (.inl ⟨by kernel_rfl,λw9 hw9=>by obtain⟨cv,cp,c0,c1⟩:=HCV.out w9 hw9;go_simp⟩) hH ?_
 simp only[sA,sB,sC];refine tkA (i:=3) 32 (.pointer (some ⟨rb,1,none⟩)) rfl (.inl ⟨by kernel_rfl,λw9 hw9=>by obtain⟨cv,cp,c0,c1⟩:=HCV.out w9 hw9;go_simp⟩) hH ?_
 simp only[sA,sB,sC];refine tkA (i:=4) 33 (.slice (some ⟨g,o,none⟩) L.length c) rfl (.inl ⟨by kernel_rfl,λw9 hw9=>by obtain⟨cv,cp,c0,c1⟩:=HCV.out w9 hw9;go_simp⟩) hH ?_
 simp only[sA,sB,sC];refine tkA (i:=5) 34 (.int .i64 (L.length:Int)) rfl (.inl ⟨by kernel_rfl,λw9 hw9=>by obtain⟨cv,cp,c0,c1⟩:=HCV.out w9 hw9;go_simp⟩) hH ?_
 simp only[sA,sB,sC];refine tkA (i:=6) 35 (.bool false) rfl (.inl ⟨by kernel_rfl,λw9 hw9=>by obtain⟨cv,cp,c0,c1⟩:=HCV.out w9 hw9;have hd:=HEQ.out;go_simp⟩) hH ?_
 simp only[sA,sB,sC];refine tkA (i:=7) 36 (.bool false) rfl (.inl ⟨by kernel_rfl,λw9 hw9=>by obtain⟨cv,cp,c0,c1⟩:=HCV.out w9 hw9;go_simp⟩) hH ?_
 simp only[sA,sB,sC];refine tkA (i:=8) 37 (.pointer (some ⟨rb,0,none⟩)) rfl (.inl ⟨by kernel_rfl,λw9 hw9=>by obtain⟨cv,cp,c0,c1⟩:=HCV.out w9 hw9;go_simp⟩) hH ?_
 simp only[sA,sB,sC];refine tkA (i:=9) 38 (.pointer (some ⟨rb,0,none⟩)) rfl (.inl ⟨by kernel_rfl,λw9 hw9=>by obtain⟨cv,cp,c0,c1⟩:=HCV.out w9 hw9;go_simp⟩) hH ?_
 simp only[sA,sB,sC];refine tkA (i:=10) 39 (.pointer (some ⟨rb,0,none⟩)) rfl (.inl ⟨by kernel_rfl,λw9 hw9=>by obtain⟨cv,cp,c0,c1⟩:=HCV.out w9 hw9;go_simp⟩) hH ?_
 simp only[sA,sB,sC];refine tkA (i:=11) 40 (.pointer (some ⟨rb,1,none⟩)) rfl (.inl ⟨by kernel_rfl,λw9 hw9=>by obtain⟨cv,cp,c0,c1⟩:=HCV.out w9 hw9;go_simp⟩) hH ?_
 simp only[sA,sB,sC];refine tkA (i:=12) 41 (.slice (some ⟨g,o,none⟩) L.length c) rfl (.inl ⟨by kernel_rfl,λw9 hw9=>by obtain⟨cv,cp,c0,c1⟩:=HCV.out w9 hw9;go_simp⟩) hH ?_
 simp only[sA,sB,sC];refine tkA (i:=13) 42 (.int .i64 (r:Int)) rfl (.inl ⟨by kernel_rfl,λw9 hw9=>by obtain⟨cv,cp,c0,c1⟩:=HCV.out w9 hw9;go_simp⟩) hH ?_
 simp only[sA,sB,sC];refine tkA (i:=14) 43 (.pointer (some ⟨g,o+r*34,none⟩)) rfl (.inl ⟨by kernel_rfl,λw9 hw9=>by obtain⟨cv,cp,c0,c1⟩:=HCV.out w9 hw9;have hln:=HLN.out.1;have hk0:=HLN.out.2;go_simp⟩) hH ?_
 simp only[sA,sB,sC];refine tkA (i:=15) 44 (.agg C) rfl (yK (by kernel_rfl) 143 _ rfl (g) (o+r*34) rfl (.agg C) (λw' hw'=>HLD.out w' hw')) hH ?_
 simp only[sA,sB,sC];refine tkA (i:=17) 46 (.int .i64 pl) rfl (.inl ⟨by kernel_rfl,λw9 hw9=>by obtain⟨cv,cp,c0,c1⟩:=HCV.out w9 hw9;go_simp⟩) hH ?_
 simp only[sA,sB,sC];refine wpAnyH_ready (rs:=[16]) (by kernel_rfl) (by simp) ?_
 refine AllReadyH.cons rfl (λK hK=>?_) AllReadyH.nil
 rw[zG (by rfl)]
 go_simp
 go_wp2_with (go_at_call 108;refine(HST.out _ KE).mono ?_;rintro e w5 ⟨rfl,k5⟩)
 have K5:Kept w1.heap.size w1.heap.size w1 w5:=KE.trans (k5.mono KE.size (λi hi _=>zD (zC hi KE.size)))
 refine hK.out _ _ (K5) (λhH=>?_)
 clear hK K;refine tkA (i:=18) 47 (.bool true) rfl (.inl ⟨by kernel_rfl,λw9 hw9=>by obtain⟨cv,cp,c0,c1⟩:=HCV.out w9 hw9;have hd:=HGT.out;go_simp⟩) hH ?_
 simp only[sA,sB,sC];refine tkA (i:=19) 48 (.bool true) rfl (.inl ⟨by kernel_rfl,λw9 hw9=>by obtain⟨cv,cp,c0,c1⟩:=HCV.out w9 hw9;go_simp⟩) hH ?_
 simp only[sA,sB,sC];refine wpAnyH_done (by kernel_rfl) ?_ _
 refine NoPanic.normal ?_;go_wp2;refine bodyPost_ret (results_tmp2 rfl _ _ _) rfl ?_;exact⟨rfl,HK1.out.trans (K5.mono HK1.out.size (λi hi _=>by have:=HK1.out.size;omega))⟩
end Go.Proofs.YtnlbgggnpoeleaaGreatDoor
