/-
 The order of vertices, as the landed sorted hands it to the sort.
-/
import Derived.Test.YtfbfdaeagpdaiaaDagLoad
import Derived.Sort.Grow
set_option maxRecDepth 100000
set_option maxHeartbeats 3200000
namespace Go.Proofs.Ytfbfdaeagpdaiaa
open Go.RowKit Go.Lib
open List renaming setIfInBounds_toArray → sA, set_cons_zero → sB, set_cons_succ → sC
open BigFrame renaming wpList_want → wQ
def Gro (w w':World):Prop:=∃ q os,w' = Go.Sort.grow (w.drewN q) os
theorem drewN_drewN15 (w:World)(q r:Nat):(w.drewN q).drewN r = w.drewN (q + r):=by simp [World.drewN,Nat.add_assoc]
theorem grow_drewN15 (w:World)(os:Array Obj)(r:Nat):(Go.Sort.grow w os).drewN r = Go.Sort.grow (w.drewN r) os:=rfl
theorem Gro.refl (w:World):Gro w w:=⟨0,#[],by simp [World.drewN]⟩
theorem Gro.trans {w w1 w2:World}(h:Gro w w1)(k:Gro w1 w2):Gro w w2:=by
 obtain⟨q,os,rfl⟩:=h;obtain⟨r,os',rfl⟩:=k;exact⟨q + r,os ++ os',by rw [grow_drewN15,drewN_drewN15,Go.Sort.grow_grow]⟩
theorem Gro.alloc {w w1:World}(h:Gro w w1)(o:Obj):Gro w (w1.alloc o):=h.trans ⟨0,#[o],by rw [Go.Sort.alloc_eq_grow]; simp [World.drewN]⟩
theorem Gro.drew {w w1:World}(h:Gro w w1):Gro w w1.drew:=h.trans ⟨1,#[],by rw [Go.Sort.grow_empty]; rfl⟩
theorem Gro.kept {w w':World}(h:Gro w w'):Kept w.heap.size w.heap.size w w':=by
 obtain⟨q,os,rfl⟩:=h
 exact⟨rfl,rfl,rfl,by simp [Go.Sort.grow,World.drewN],fun k hk _=>by
  show(w.heap ++ os)[k]? = _
  exact Array.getElem?_append_left hk⟩
theorem cmp_gro (l m:List UInt8)(hl:l.length = 32)(hm:m.length = 32)(w:World):Calls Try.prog 27 #[.agg (bcells l).toArray,.agg (bcells m).toArray] w fun e w'=>e = .returned (.int .i64 (compareBytes l m))∧Gro w w':=by
 generalize hq1:(bcells l).toArray = cs;generalize hq2:(bcells m).toArray = ds;have HQ1:=hid hq1.symm;have HQ2:=hid hq2.symm;clear hq1 hq2
 go_enter Try.func27,Try.ntmps27
 go_wp2_with fail
 have hA:((w.alloc (.cells cs 30)).alloc (.cells ds 30)).heap[w.heap.size]? = some (.cells cs 30 (0,0)):=heap_alloc2_old w _ _
 have hB:((w.alloc (.cells cs 30)).alloc (.cells ds 30)).heap[w.heap.size + 1]? = some (.cells ds 30 (0,0)):=heap_alloc2_last w _ _
 have hG:Gro w ((w.alloc (.cells cs 30)).alloc (.cells ds 30)):=((Gro.refl w).alloc _).alloc _
 generalize (w.alloc (.cells cs 30)).alloc (.cells ds 30) = w2 at hA hB hG ⊢
 rw [HQ1.out] at hA;rw [HQ2.out] at hB
 have hcall:∀ n,Calls Try.prog 32 #[.slice (some ⟨w.heap.size,0,none⟩) 32 32,.slice (some ⟨w.heap.size + 1,0,none⟩) 32 32] (w2.drewN n) fun e w'=>e = .returned (.int .i64 (compareBytes l m))∧w' = w2.drewN n:=fun n=>by
  have:=comparebytes_calls l m w.heap.size (w.heap.size + 1) 32 32 (w2.drewN n) (fun j hj=>cells_get hA (bcells_get l j hj)) (fun j hj=>cells_get hB (bcells_get m j hj))
  rw [hl,hm] at this;exact this
 have Hcall:=hid hcall;have HG:=hid hG;have s1:=fun w=>slice_hash w
 clear hcall hG hA hB
 go_quiet ((go_at_call 32; exact Calls.quiet_of_same (Hcall.out _)))
 go_wp2;go_ret;exact⟨rfl,HG.out.trans ⟨_,#[],by simp; rfl⟩⟩
def Vrow (w:World)(g:Nat)(a b:Int):Prop:=w.heap[g]? = some (.cells #[.int .i64 a,.int .i64 b] 3 (0,0))
def cmpV (a b:Vx):Int:=orI (cmpI a.dep b.dep) (compareBytes a.id b.id)
theorem order15 (a b:Vx)(ha:a.Ok)(hb:b.Ok)(w:World):Calls Try.prog 24 #[a.val,b.val] w fun e w'=>e = .returned (.int .i64 (cmpV a b))∧Gro w w':=by
 have hG:Gro w ((w.alloc (.cells a.cells.toArray 36)).alloc (.cells b.cells.toArray 36)):=((Gro.refl w).alloc _).alloc _
 have v1:Vb ((w.alloc (.cells a.cells.toArray 36)).alloc (.cells b.cells.toArray 36)) w.heap.size a:=heap_alloc2_old w _ _
 have v2:Vb ((w.alloc (.cells a.cells.toArray 36)).alloc (.cells b.cells.toArray 36)) (w.heap.size + 1) b:=heap_alloc2_last w _ _
 obtain⟨w2,hw2⟩:∃ x,x = ((w.alloc (.cells a.cells.toArray 36)).alloc (.cells b.cells.toArray 36)):=⟨_,rfl⟩
 rw [← hw2] at hG v1 v2;have IA:=hid (fun(x:World) (k:Gro w2 x)=>(v1.kept k.kept).lid ha)
 have IB:=hid (fun(x:World) (k:Gro w2 x)=>(v2.kept k.kept).lid hb)
 have DA:=hid (fun(x:World) (k:Gro w2 x)=>(v1.kept k.kept).ldep ha)
 have DB:=hid (fun(x:World) (k:Gro w2 x)=>(v2.kept k.kept).ldep hb)
 have HC:=hid (fun x=>cmp_gro a.id b.id ha.1 hb.1 x)
 have HN:=hid (fun x=>compare15 a.dep b.dep x)
 have HO:=hid (fun(g:Nat) (x:World) hg=>or15 (cmpI a.dep b.dep) (compareBytes a.id b.id) g 2 x hg)
 have HG:=hid hG;have HL:=hid (show cmpV a b = orI (cmpI a.dep b.dep) (compareBytes a.id b.id) from rfl);obtain⟨r,hr⟩:∃ r,r = cmpV a b:=⟨_,rfl⟩;rw [← hr] at HL ⊢;rw [← HL.out] at HO;obtain⟨ad,had⟩:∃ x,x = a.dep:=⟨_,rfl⟩;obtain⟨bd,hbd⟩:∃ x,x = b.dep:=⟨_,rfl⟩;rw [← had] at DA HN HO;rw [← hbd] at DB HN HO;obtain⟨ci,hci⟩:∃ x,x = cmpI ad bd:=⟨_,rfl⟩;rw [← hci] at HN HO;obtain⟨cc,hcc⟩:∃ x,x = compareBytes a.id b.id:=⟨_,rfl⟩;rw [← hcc] at HC HO;have HW:=hid hw2;unfold Vx.val;generalize a.cells.toArray = ca at *;generalize b.cells.toArray = cb at *;generalize (bcells a.id).toArray = ia at IA HC;generalize (bcells b.id).toArray = ib at IB HC;clear ha hb v1 v2 hr had hbd hcc hci hG HL hw2
 go_enter Try.func24,Try.ntmps24
 go_upto_region 1 with fail
 rw [← HW.out];refine wp_region_noPanic ?_;refine wp_region_held_drew (S:=fun x=>Gro w2 x) (by kernel_rfl) ((Gro.refl w2).drew) (fun hH=>?_)
 refine wpAnyH_take_ex (i:=0) 5 rfl rfl (by kernel_rfl) (by kernel_rfl) (by kernel_rfl) (fun _ _ _ _ h=>h) (by kernel_rfl) hH ?_
 apply Exists.intro;apply And.intro
 ·intro w9 _
  go_simp
  first | done | rfl
 simp only [sA,sB,sC];refine wpAnyH_take_at (i:=1) 6 (.int .i64 ad) rfl rfl (by kernel_rfl) (by kernel_rfl) (by kernel_rfl) (fun _ _ _ h=>h) (yieldsIf_load_known (by kernel_rfl) 3 _ rfl (w.heap.size) (64) rfl (.int .i64 ad) (DA.out)) hH ?_
 simp only [sA,sB,sC];refine wpAnyH_take_ex (i:=2) 7 rfl rfl (by kernel_rfl) (by kernel_rfl) (by kernel_rfl) (fun _ _ _ _ h=>h) (by kernel_rfl) hH ?_
 apply Exists.intro;apply And.intro
 ·intro w9 _
  go_simp
  first | done | rfl
 simp only [sA,sB,sC];refine wpAnyH_take_at (i:=3) 8 (.int .i64 bd) rfl rfl (by kernel_rfl) (by kernel_rfl) (by kernel_rfl) (fun _ _ _ h=>h) (yieldsIf_load_known (by kernel_rfl) 3 _ rfl (w.heap.size + 1) (64) rfl (.int .i64 bd) (DB.out)) hH ?_
 simp only [sA,sB,sC];refine wpAnyH_take_ex (i:=5) 10 rfl rfl (by kernel_rfl) (by kernel_rfl) (by kernel_rfl) (fun _ _ _ _ h=>h) (by kernel_rfl) hH ?_
 apply Exists.intro;apply And.intro
 ·intro w9 _
  go_simp
  first | done | rfl
 simp only [sA,sB,sC];refine wpAnyH_take_at (i:=6) 11 (.agg ia) rfl rfl (by kernel_rfl) (by kernel_rfl) (by kernel_rfl) (fun _ _ _ h=>h) (yieldsIf_load_known (by kernel_rfl) 30 _ rfl (w.heap.size) (0) rfl (.agg ia) (IA.out)) hH ?_
 simp only [sA,sB,sC];refine wpAnyH_take_ex (i:=7) 12 rfl rfl (by kernel_rfl) (by kernel_rfl) (by kernel_rfl) (fun _ _ _ _ h=>h) (by kernel_rfl) hH ?_
 apply Exists.intro;apply And.intro
 ·intro w9 _
  go_simp
  first | done | rfl
 simp only [sA,sB,sC];refine wpAnyH_take_at (i:=8) 13 (.agg ib) rfl rfl (by kernel_rfl) (by kernel_rfl) (by kernel_rfl) (fun _ _ _ h=>h) (yieldsIf_load_known (by kernel_rfl) 30 _ rfl (w.heap.size + 1) (0) rfl (.agg ib) (IB.out)) hH ?_
 simp only [sA,sB,sC];refine wpAnyH_ready (rs:=[4]) (by kernel_rfl) (by simp) ?_
 refine AllReadyH.cons rfl (fun K hK=>?_) AllReadyH.nil
 rw [if_pos (by rfl)]
 go_simp
 go_wp2_with (go_at_call 26; refine(HN.out _).mono ?_; rintro e x1 ⟨rfl,h1⟩; subst h1)
 have KS:=(Gro.refl w2).drew;have G1:=KS;refine hK.out _ _ KS (fun hH=>?_)
 clear hK K KS;refine wpAnyH_ready (rs:=[9]) (by kernel_rfl) (by simp) ?_
 refine AllReadyH.cons rfl (fun K hK=>?_) AllReadyH.nil
 rw [if_pos (by rfl)]
 go_simp
 go_wp2_with (go_at_call 27; refine(HC.out _).mono ?_; rintro e x2 ⟨rfl,g2⟩)
 have KS:=G1.trans g2;have G2:=KS;refine hK.out _ _ KS (fun hH=>?_)
 clear hK K KS;refine wpAnyH_ready (rs:=[10]) (by kernel_rfl) (by simp) ?_
 refine AllReadyH.cons rfl (fun K hK=>?_) AllReadyH.nil
 rw [if_pos (by rfl)]
 go_simp;have KS:=G2.alloc (.cells #[.int .i64 ci,.int .i64 cc] 3)
 have hrow:Vrow (x2.alloc (.cells #[.int .i64 ci,.int .i64 cc] 3)) x2.heap.size ci cc:=heap_new _ _
 have G3:=KS;refine hK.out _ _ KS (fun hH=>?_)
 clear hK K KS;refine wpAnyH_ready (rs:=[11]) (by kernel_rfl) (by simp) ?_
 refine AllReadyH.cons rfl (fun K hK=>?_) AllReadyH.nil
 rw [if_pos (by rfl)]
 go_simp
 go_wp2_with (go_at_call 25; refine(HO.out _ _ hrow).mono ?_; rintro e x4 ⟨rfl,h4⟩; subst h4)
 have KS:=G3;have G4:=KS;refine hK.out _ _ KS (fun hH=>?_)
 clear hK K KS;refine wpAnyH_take_ex (i:=12) 4 rfl rfl (by kernel_rfl) (by kernel_rfl) (by kernel_rfl) (fun _ _ _ _ h=>h) (by kernel_rfl) hH ?_
 apply Exists.intro;apply And.intro
 ·intro w9 _
  go_simp
  first | done | rfl
 simp only [sA,sB,sC];refine wpAnyH_done (by kernel_rfl) ?_ _
 refine NoPanic.normal ?_;go_wp2;go_ret;exact⟨rfl,HG.out.trans G4⟩
end Go.Proofs.Ytfbfdaeagpdaiaa
