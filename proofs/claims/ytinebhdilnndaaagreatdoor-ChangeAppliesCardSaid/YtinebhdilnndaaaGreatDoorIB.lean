/-
 ChgSmall; ChgOrder; ChgEq; ChgLess: several texts in one.
-/
import Derived.Test.YtinebhdilnndaaaGreatDoorIA
set_option maxRecDepth 100000
set_option maxHeartbeats 3200000
namespace Go.Proofs.YtinebhdilnndaaaGreatDoor
open Go.RowKit Go.Lib
open List renaming setIfInBounds_toArray -> sA, set_cons_zero -> sB, set_cons_succ -> sC
open BigFrame renaming wpList_want -> wQ
theorem isname_calls10 (n:Int)(w:World):Calls Tryz.prog 52 #[.int .i64 n] w λe w'=>e = .returned (.bool (Cm.isNm n))/\w' = w:=by
 go_enter Tryz.func52,Tryz.ntmps52
 by_cases h:1<=n
 ·have hd:decide (n>=1) = true:=decide_eq_true h
  go_wp2;go_ret;simp [h,Cm.isNm]
 ·have hd:decide (n>=1) = false:=decide_eq_false h
  go_wp2;go_ret;simp [Cm.isNm]
  omega
theorem rank_calls10 (n:Int)(w:World):Calls Tryz.prog 73 #[.int .i64 n] w λe w'=>e = .returned (.int .i64 (Cm.rank n:Int))/\w' = w:=by
 go_enter Tryz.func73,Tryz.ntmps73
 by_cases h2:n = 2
 ·subst h2
  go_wp2;go_ret;exact⟨rfl,rfl⟩
 ·have e2:(n == 2) = false:=beq_eq_false_iff_ne.2 h2
  by_cases h3:n = 3
  ·subst h3
   go_wp2;go_ret;exact⟨rfl,rfl⟩
  ·have e3:(n == 3) = false:=beq_eq_false_iff_ne.2 h3
   by_cases h1:n = 1
   ·subst h1
    go_wp2;go_ret;exact⟨rfl,rfl⟩
   ·have e1:(n == 1) = false:=beq_eq_false_iff_ne.2 h1
    have hr:Hid (Cm.rank n = 4):=hid (by rw [Cm.rank,if_neg h2,if_neg h3,if_neg h1])
    go_wp2;go_ret;rw [hr.out];exact⟨rfl,rfl⟩
theorem isnan_calls (n:Int)(w:World):Calls Tryz.prog 97 #[.int .i64 n] w λe w'=>e = .returned (.bool false)/\w' = w:=by
 go_enter Tryz.func97,Tryz.ntmps97
 go_wp2;go_ret;simp
namespace Cm
def cmp (a b:Int):Int:=if a < b then -1 else if b < a then 1 else 0
def or2 (a b:Int):Int:=if a = 0 then b else a
end Cm
theorem compare_calls (a b:Int)(w:World):Calls Tryz.prog 72 #[.int .i64 a,.int .i64 b] w λe w'=>e = .returned (.int .i64 (Cm.cmp a b))/\w' = w:=by
 have HN:=hid (λn x=>isnan_calls n x)
 go_enter Tryz.func72,Tryz.ntmps72
 by_cases h:a < b
 ·have hr:Hid (Cm.cmp a b = -1):=hid (by rw [Cm.cmp,if_pos h])
  go_wp2_with (go_at_call 97; refine(HN.out _ _).mono ?_; rintro e w9 ⟨rfl,rfl⟩)
  go_ret;rw [hr.out];exact⟨rfl,rfl⟩
 ·by_cases h2:b < a
  ·have h2':a > b:=h2
   have hr:Hid (Cm.cmp a b = 1):=hid (by rw [Cm.cmp,if_neg h,if_pos h2])
   go_wp2_with (go_at_call 97; refine(HN.out _ _).mono ?_; rintro e w9 ⟨rfl,rfl⟩)
   go_ret;rw [hr.out];exact⟨rfl,rfl⟩
  ·have h2':¬ a > b:=h2
   have hr:Hid (Cm.cmp a b = 0):=hid (by rw [Cm.cmp,if_neg h,if_neg h2])
   go_wp2_with (go_at_call 97; refine(HN.out _ _).mono ?_; rintro e w9 ⟨rfl,rfl⟩)
   go_ret;rw [hr.out];exact⟨rfl,rfl⟩
theorem int_cell (w:World)(g j:Nat)(cs:Array Value)(t:TypeId)(fz:Nat × Nat)(h:w.heap[g]? = some (.cells cs t fz)){v:Value}(hv:cs[j]? = some v):w.cell? ⟨g,j,none⟩ = some v:=(cell_of_row w g j _ _ _ h).trans hv
theorem or_calls (a b:Int)(g c:Nat)(w:World)(h:w.heap[g]? = some (.cells #[.int .i64 a,.int .i64 b] 3 (0,0))):Calls Tryz.prog 68 #[.slice (some ⟨g,0,none⟩) 2 c] w λe w'=>e = .returned (.int .i64 (Cm.or2 a b))/\Kept w.heap.size w.heap.size w w':=by
 have c0:w.cell? ⟨g,0,none⟩ = some (.int .i64 a):=int_cell w g 0 _ _ _ h rfl;have c1:w.cell? ⟨g,1,none⟩ = some (.int .i64 b):=int_cell w g 1 _ _ _ h rfl;have K0:=hid (Kept.refl w.heap.size w.heap.size w);clear h
 go_enter Tryz.func68,Tryz.ntmps68
 go_wp2_with fail
 go_loopw [8] (λs8 wr=>wr = w/\∃ i:Int,s8 = .int .i64 i/\Hid (i = 0\/(i = 1/\a = 0)\/(i = 2/\a = 0/\b = 0))) (λs8 _=>2 - (RowKit.intOf s8).toNat)
 case atStart=>exact⟨rfl,0,rfl,hid (.inl rfl)⟩
 case round=>
  obtain⟨rfl,i,rfl,hi⟩:=hrel
  rcases hi.out with rfl | ⟨rfl,rfl⟩ | ⟨rfl,rfl,rfl⟩
  ·clear hi
   by_cases ha:a = 0
   ·subst ha
    go_wp2_with fail
    go_roundw
    case rel=>exact⟨by trivial,1,by first | rfl | trivial,hid (by simp)⟩
    case measure=>decide
   ·have ha':(a == 0) = false:=beq_eq_false_iff_ne.2 ha
    have hr:Hid (Cm.or2 a b = a):=hid (by rw [Cm.or2,if_neg ha])
    clear ha
    go_wp2_with fail
    go_ret;rw [hr.out];exact⟨rfl,K0.out⟩
  ·clear hi
   by_cases ha:b = 0
   ·subst ha
    go_wp2_with fail
    go_roundw
    case rel=>exact⟨by trivial,2,by first | rfl | trivial,hid (by simp)⟩
    case measure=>decide
   ·have ha':(b == 0) = false:=beq_eq_false_iff_ne.2 ha
    clear ha
    go_wp2_with fail
    go_ret;exact⟨rfl,K0.out⟩
  ·clear hi
   go_wp2_with fail
   go_ret;exact⟨rfl,K0.out⟩
theorem kept_eq10 {w w':World}(h:w' = w):Kept w.heap.size w.heap.size w w':=by subst h; exact Kept.refl _ _ _
namespace Cm
def order (p q:Cg):Int:=or2 (cmp (rank p.kind) (rank q.kind)) (cmp p.name q.name)
theorem order_neg (p q:Cg):decide (order p q < 0) = less p q:=by
 unfold order or2 cmp less
 by_cases h:rank p.kind = rank q.kind
 ·have h1:¬ ((rank p.kind:Int) < (rank q.kind:Int)):=by omega
  have h2:¬ ((rank q.kind:Int) < (rank p.kind:Int)):=by omega
  rw [if_pos h,if_neg h1,if_neg h2,if_pos rfl]
  by_cases h3:p.name < q.name
  ·rw [if_pos h3,decide_eq_true h3]; rfl
  ·rw [if_neg h3,decide_eq_false h3]
   split <;> rfl
 ·rw [if_neg h]
  by_cases h3:rank p.kind < rank q.kind
  ·rw [if_pos (by omega:(rank p.kind:Int) < (rank q.kind:Int)),decide_eq_true h3]; rfl
  ·rw [if_neg (by omega:¬ (rank p.kind:Int) < (rank q.kind:Int)),if_pos (by omega:(rank q.kind:Int) < (rank p.kind:Int)),decide_eq_false h3]; rfl
end Cm
theorem order_calls (p q:Cg)(w:World):Calls Tryz.prog 47 #[.agg p.chg.toArray,.agg q.chg.toArray] w λe w'=>e = .returned (.int .i64 (Cm.order p q))/\Kept w.heap.size w.heap.size w w':=by
 have HR:=hid (λn x=>(rank_calls10 n x).mono (λe w' h=>show e = .returned (.int .i64 (Cm.rank n:Int))/\Kept x.heap.size x.heap.size x w' from⟨h.1,kept_eq10 h.2⟩))
 have HC:=hid (λa b x=>(compare_calls a b x).mono (λe w' h=>show e = .returned (.int .i64 (Cm.cmp a b))/\Kept x.heap.size x.heap.size x w' from⟨h.1,kept_eq10 h.2⟩))
 have HFIN:=hid (show Cm.or2 (Cm.cmp (Cm.rank p.kind) (Cm.rank q.kind)) (Cm.cmp p.name q.name) = Cm.order p q from rfl);have R1:((w.alloc (.cells p.chg.toArray 44)).alloc (.cells q.chg.toArray 44)).heap[w.heap.size]? = some (.cells p.chg.toArray 44 (0,0)):=heap_alloc2_old w _ _
 have R2:((w.alloc (.cells p.chg.toArray 44)).alloc (.cells q.chg.toArray 44)).heap[w.heap.size + 1]? = some (.cells q.chg.toArray 44 (0,0)):=heap_alloc2_last w _ _
 have k1:Kept w.heap.size w.heap.size w ((w.alloc (.cells p.chg.toArray 44)).alloc (.cells q.chg.toArray 44)):=((Kept.refl _ _ _).alloc (Nat.le_refl _) _).alloc (by simp) _
 have KP:=hid (λ(x:World) (h:x.heap[w.heap.size]? = some (.cells p.chg.toArray 44 (0,0)))=>load_int10 (chg_kind (p:=p) (row_range0 h)))
 have NP:=hid (λ(x:World) (h:x.heap[w.heap.size]? = some (.cells p.chg.toArray 44 (0,0)))=>load_int10 (chg_name (p:=p) (row_range0 h)))
 have KQ:=hid (λ(x:World) (h:x.heap[w.heap.size + 1]? = some (.cells q.chg.toArray 44 (0,0)))=>load_int10 (chg_kind (p:=q) (row_range0 h)))
 have NQ:=hid (λ(x:World) (h:x.heap[w.heap.size + 1]? = some (.cells q.chg.toArray 44 (0,0)))=>load_int10 (chg_name (p:=q) (row_range0 h)))
 generalize p.chg.toArray = cp at R1 R2 k1 KP NP |-;generalize q.chg.toArray = cq at R1 R2 k1 KQ NQ |-
 go_enter Tryz.func47,Tryz.ntmps47
 go_upto_region 1 with fail
 generalize (w.alloc (.cells cp 44)).alloc (.cells cq 44) = w1 at R1 R2 k1 |-
 obtain⟨ab,hab⟩:∃ ab,ab = w.heap.size:=⟨_,rfl⟩;rw [<- hab] at R1 R2 KP NP KQ NQ |-;have K1:=hid k1;have H1:=hid (λ(x:World) (k:Kept w1.heap.size w1.heap.size w1 x)=>KP.out x (row_kept R1 k))
 have H2:=hid (λ(x:World) (k:Kept w1.heap.size w1.heap.size w1 x)=>NP.out x (row_kept R1 k))
 have H3:=hid (λ(x:World) (k:Kept w1.heap.size w1.heap.size w1 x)=>KQ.out x (row_kept R2 k))
 have H4:=hid (λ(x:World) (k:Kept w1.heap.size w1.heap.size w1 x)=>NQ.out x (row_kept R2 k))
 have KD:Kept w1.heap.size w1.heap.size w1 w1.drew:=(Kept.refl _ _ _).drew;clear hab k1 R1 R2 KP NP KQ NQ;refine wp_region_noPanic ?_;refine wp_region_held_drew (S:=λw'=>Kept w1.heap.size w1.heap.size w1 w') (by kernel_rfl) ((Kept.refl _ _ _).drew) (λhH=>?_)
 refine tkE (i:=0) 5 rfl hH ?_
 apply Exists.intro;apply And.intro
 ·intro w9 _
  go_simp
  first | done | rfl
 simp only [sA,sB,sC];refine tkA (i:=1) 6 (.int .i64 p.kind) rfl (yieldsIf_load_known (by kernel_rfl) 3 _ rfl (ab) (0) rfl (.int .i64 p.kind) (λw' hw'=>H1.out w' hw')) hH ?_
 simp only [sA,sB,sC];refine tkE (i:=3) 8 rfl hH ?_
 apply Exists.intro;apply And.intro
 ·intro w9 _
  go_simp
  first | done | rfl
 simp only [sA,sB,sC];refine tkA (i:=4) 9 (.int .i64 q.kind) rfl (yieldsIf_load_known (by kernel_rfl) 3 _ rfl (ab + 1) (0) rfl (.int .i64 q.kind) (λw' hw'=>H3.out w' hw')) hH ?_
 simp only [sA,sB,sC];refine tkE (i:=7) 12 rfl hH ?_
 apply Exists.intro;apply And.intro
 ·intro w9 _
  go_simp
  first | done | rfl
 simp only [sA,sB,sC];refine tkA (i:=8) 13 (.int .i64 p.name) rfl (yieldsIf_load_known (by kernel_rfl) 3 _ rfl (ab) (0 + 1) rfl (.int .i64 p.name) (λw' hw'=>H2.out w' hw')) hH ?_
 simp only [sA,sB,sC];refine tkE (i:=9) 14 rfl hH ?_
 apply Exists.intro;apply And.intro
 ·intro w9 _
  go_simp
  first | done | rfl
 simp only [sA,sB,sC];refine tkA (i:=10) 15 (.int .i64 q.name) rfl (yieldsIf_load_known (by kernel_rfl) 3 _ rfl (ab + 1) (0 + 1) rfl (.int .i64 q.name) (λw' hw'=>H4.out w' hw')) hH ?_
 simp only [sA,sB,sC];refine wpAnyH_ready (rs:=[2]) (by kernel_rfl) (by simp) ?_
 refine AllReadyH.cons rfl (λK hK=>?_) AllReadyH.nil
 rw [if_pos (by rfl)]
 go_simp
 go_wp2_with (go_at_call 73; refine(HR.out _ _).mono ?_; rintro e w2 ⟨rfl,kw2⟩)
 have K2:Kept w1.heap.size w1.heap.size w1 w2:=KD.trans (kw2.mono KD.size (λi hi _=>Nat.ne_of_lt (Nat.lt_of_lt_of_le hi KD.size)))
 refine hK.out _ _ (K2) (λhH=>?_)
 clear hK K;refine wpAnyH_ready (rs:=[5]) (by kernel_rfl) (by simp) ?_
 refine AllReadyH.cons rfl (λK hK=>?_) AllReadyH.nil
 rw [if_pos (by rfl)]
 go_simp
 go_wp2_with (go_at_call 73; refine(HR.out _ _).mono ?_; rintro e w3 ⟨rfl,kw3⟩)
 have K3:Kept w1.heap.size w1.heap.size w1 w3:=K2.trans (kw3.mono K2.size (λi hi _=>Nat.ne_of_lt (Nat.lt_of_lt_of_le hi K2.size)))
 refine hK.out _ _ (K3) (λhH=>?_)
 clear hK K;refine wpAnyH_ready (rs:=[6]) (by kernel_rfl) (by simp) ?_
 refine AllReadyH.cons rfl (λK hK=>?_) AllReadyH.nil
 rw [if_pos (by rfl)]
 go_simp
 go_wp2_with (go_at_call 72; refine(HC.out _ _ _).mono ?_; rintro e w4 ⟨rfl,kw4⟩)
 have K4:Kept w1.heap.size w1.heap.size w1 w4:=K3.trans (kw4.mono K3.size (λi hi _=>Nat.ne_of_lt (Nat.lt_of_lt_of_le hi K3.size)))
 refine hK.out _ _ (K4) (λhH=>?_)
 clear hK K;refine wpAnyH_ready (rs:=[11]) (by kernel_rfl) (by simp) ?_
 refine AllReadyH.cons rfl (λK hK=>?_) AllReadyH.nil
 rw [if_pos (by rfl)]
 go_simp
 go_wp2_with (go_at_call 72; refine(HC.out _ _ _).mono ?_; rintro e w5 ⟨rfl,kw5⟩)
 have K5:Kept w1.heap.size w1.heap.size w1 w5:=K4.trans (kw5.mono K4.size (λi hi _=>Nat.ne_of_lt (Nat.lt_of_lt_of_le hi K4.size)))
 refine hK.out _ _ (K5) (λhH=>?_)
 clear hK K;refine wpAnyH_ready (rs:=[12]) (by kernel_rfl) (by simp) ?_
 refine AllReadyH.cons rfl (λK hK=>?_) AllReadyH.nil
 rw [if_pos (by rfl)]
 go_simp;have KB:Kept w1.heap.size w1.heap.size w1 (w5.alloc (.cells #[.int .i64 (Cm.cmp (Cm.rank p.kind) (Cm.rank q.kind)),.int .i64 (Cm.cmp p.name q.name)] 3)):=K5.alloc K5.size _
 have rb:=heap_new w5 (.cells #[.int .i64 (Cm.cmp (Cm.rank p.kind) (Cm.rank q.kind)),.int .i64 (Cm.cmp p.name q.name)] 3)
 refine hK.out _ _ KB (λhH=>?_)
 clear hK K;generalize w5.alloc (.cells #[.int .i64 (Cm.cmp (Cm.rank p.kind) (Cm.rank q.kind)),.int .i64 (Cm.cmp p.name q.name)] 3) = w6 at KB rb hH |-
 refine wpAnyH_ready (rs:=[13]) (by kernel_rfl) (by simp) ?_
 refine AllReadyH.cons rfl (λK hK=>?_) AllReadyH.nil
 rw [if_pos (by rfl)]
 go_simp
 go_wp2_with (go_at_call 68; refine(or_calls _ _ _ _ _ rb).mono ?_; rintro e w7 ⟨rfl,kw7⟩)
 have K7:Kept w1.heap.size w1.heap.size w1 w7:=KB.trans (kw7.mono KB.size (λi hi _=>Nat.ne_of_lt (Nat.lt_of_lt_of_le hi KB.size)))
 refine hK.out _ _ (K7) (λhH=>?_)
 clear hK K;refine tkE (i:=14) 4 rfl hH ?_
 apply Exists.intro;apply And.intro
 ·intro w9 _
  go_simp
  first | done | rfl
 simp only [sA,sB,sC];refine wpAnyH_done (by kernel_rfl) ?_ _
 refine NoPanic.normal ?_;go_wp2;go_ret;rw [HFIN.out];exact⟨rfl,K1.out.onto K7⟩
theorem less_calls10 (p q:Cg)(hp:p.Ok)(hq:q.Ok)(w:World):Calls Tryz.prog 20 #[.agg p.cells.toArray,.agg q.cells.toArray] w λe w'=>e = .returned (.bool (Cm.less p q))/\Kept w.heap.size w.heap.size w w':=by
 have HO:=hid (λx=>order_calls p q x)
 have HFIN:=hid (Cm.order_neg p q);have R1:((w.alloc (.cells p.cells.toArray 46)).alloc (.cells q.cells.toArray 46)).heap[w.heap.size]? = some (.cells p.cells.toArray 46 (0,0)):=heap_alloc2_old w _ _
 have R2:((w.alloc (.cells p.cells.toArray 46)).alloc (.cells q.cells.toArray 46)).heap[w.heap.size + 1]? = some (.cells q.cells.toArray 46 (0,0)):=heap_alloc2_last w _ _
 have k1:Kept w.heap.size w.heap.size w ((w.alloc (.cells p.cells.toArray 46)).alloc (.cells q.cells.toArray 46)):=((Kept.refl _ _ _).alloc (Nat.le_refl _) _).alloc (by simp) _
 have HP:=hid (load_chg (cg_chg R1 hp) hp);have HQ:=hid (load_chg (cg_chg R2 hq) hq);generalize p.chg.toArray = cp at HP HO;generalize q.chg.toArray = cq at HQ HO;generalize p.cells.toArray = dp at k1 HP HQ |-;generalize q.cells.toArray = dq at k1 HP HQ |-;clear R1 R2
 go_enter Tryz.func20,Tryz.ntmps20
 go_upto_region 1 with fail
 generalize (w.alloc (.cells dp 46)).alloc (.cells dq 46) = w1 at HP HQ k1 |-
 obtain⟨ab,hab⟩:∃ ab,ab = w.heap.size:=⟨_,rfl⟩;rw [<- hab] at HP HQ |-;have K1:=hid k1;clear hab k1;refine wp_region_lit ?_;refine wW λK hK=>?_;go_simp;apply hK;clear hK K;refine wLk 44 (.tmp 5) rfl (ab) (35) rfl (.agg cp) (HP.out) ?_
 simp only [Act.put,sA,sB,sC];refine wW λK hK=>?_;go_simp;apply hK;clear hK K;refine wLk 44 (.tmp 7) rfl (ab + 1) (35) rfl (.agg cq) (HQ.out) ?_
 simp only [Act.put,sA,sB,sC];refine wW λK hK=>?_;go_simp;go_at_call 47
 refine(HO.out _).mono ?_;rintro e w2 ⟨rfl,kw2⟩;apply hK;clear hK K;iterate 2 (refine wW λK hK=>?_;go_simp;apply hK;clear hK K)
 go_wp2;go_ret;rw [HFIN.out];exact⟨rfl,K1.out.onto kw2⟩
theorem extract_part (A B C:List Value)(cs:List Value)(hcs:cs = A ++ (B ++ C))(o n:Nat)(ho:o = A.length)(hn:n = B.length):cs.toArray.extract o (o + n) = B.toArray:=by
 subst hcs ho hn;apply Array.ext';simp
section
variable {p:Cg} (h:p.Ok)
include h
theorem Cg.part_pub:p.chg.toArray.extract 2 (2 + 32) = (bcells p.pub).toArray:=extract_part [.int .i64 p.kind,.int .i64 p.name] _ [] _ (by simp [Cg.chg]) 2 32 rfl (by rw [bcells_length,h.2.1])
end
end Go.Proofs.YtinebhdilnndaaaGreatDoor
