/-
 Vertices, their order, a store as a list, what comes of putting one in.
-/
import Derived.Test.YtfbfdaeagpdaiaaGD
import Derived.Test.YtfbfdaeagpdaiaaGA
namespace Go.Proofs.Ytfbfdaeagpdaiaa
open Go.RowKit Go.Lib
open List renaming setIfInBounds_toArray → sA, set_cons_zero → sB, set_cons_succ → sC
open BigFrame renaming wpList_want → wQ
structure Vx where
 id:List UInt8
 par:List UInt8
 dep:Int
 dat:Int
namespace Vx
def Ok (v:Vx):Prop:=v.id.length = 32∧v.par.length = 32
def cells (v:Vx):List Value:=bcells v.id ++ (bcells v.par ++ [.int .i64 v.dep,.int .i64 v.dat])
def val (v:Vx):Value:=.agg v.cells.toArray
def zero:Vx:=⟨List.replicate 32 0,List.replicate 32 0,0,0⟩
theorem zero_ok:zero.Ok:=⟨by simp [zero],by simp [zero]⟩
theorem cells_length {v:Vx}(h:v.Ok):v.cells.length = 66:=by simp [cells,bcells_length,h.1,h.2]
theorem cells_one (v:Vx):∀ u∈v.cells,u.oneCell' = true:=by
 intro u hu;rw [cells,List.mem_append,List.mem_append] at hu
 rcases hu with hu | hu | hu
 ·exact bcells_one _ u hu
 ·exact bcells_one _ u hu
 ·simp at hu
  rcases hu with rfl | rfl <;> rfl
theorem cells_all (v:Vx):v.cells.toArray.all (·.oneCell') = true:=by
 rw [Array.all_eq_true_iff_forall_mem];intro u hu;exact cells_one v u (by simpa using hu)
def lead (a b:Vx):Bool:=decide (b.dep < a.dep) || (decide (a.dep = b.dep) && Bk.less a.id b.id)
theorem lead_self (a:Vx):lead a a = false:=by simp [lead,Bk.less_irrefl]
theorem lead_iff {a b:Vx}:lead a b = true↔b.dep < a.dep∨a.dep = b.dep∧Bk.less a.id b.id = true:=by simp [lead]
theorem lead_no {a b:Vx}:lead a b = false↔a.dep≤b.dep∧(a.dep = b.dep→Bk.less a.id b.id = false):=by
 cases h:lead a b with
 | true=>
  rw [lead_iff] at h;simp only [Bool.true_eq_false,false_iff];rintro ⟨h1,h2⟩
  rcases h with h | ⟨h3,h4⟩
  ·omega
  ·rw [h2 h3] at h4; cases h4
 | false=>
  simp only [true_iff];have hn:¬ (b.dep < a.dep∨a.dep = b.dep∧Bk.less a.id b.id = true):=fun hh=>by rw [lead_iff.2 hh] at h; cases h
  refine⟨by omega,fun he=>?_⟩
  cases hl:Bk.less a.id b.id with
  | false=>rfl
  | true=>exact absurd (.inr ⟨he,hl⟩) hn
theorem lead_trans {a b c:Vx}(h:lead a b = true)(k:lead b c = true):lead a c = true:=by
 rw [lead_iff] at *
 rcases h with h | ⟨h1,h2⟩ <;> rcases k with k | ⟨k1,k2⟩
 ·exact .inl (by omega)
 ·exact .inl (by omega)
 ·exact .inl (by omega)
 ·exact .inr ⟨by omega,Bk.less_trans h2 k2⟩
end Vx
namespace Dg
def floor (keep:Int):Option Vx→Int
 | none=>0
 | some v=>max (v.dep - keep) 0
def Top (h:Option Vx)(L:List Vx):Prop:=match h with
 | none=>L = []
 | some v=>v∈L∧∀ u∈L,Vx.lead u v = false
def newTop (h:Option Vx)(v:Vx):Vx:=match h with
 | none=>v
 | some u=>if Vx.lead v u = true then v else u
def ids (L:List Vx):List (List UInt8):=L.map Vx.id
structure St0 (L:List Vx) (h:Option Vx):Prop where
 top:Top h L
 ok:∀ v∈L,v.Ok∧0≤v.dep∧v.dep≤4611686018427387903
 nodup:(ids L).Nodup
structure St (keep:Int) (L:List Vx) (h:Option Vx):Prop extends St0 L h where
 above:∀ v∈L,floor keep h≤v.dep
theorem St0.empty:St0 [] none:=⟨rfl,by simp,by simp [ids]⟩
theorem St.empty (keep:Int):St keep [] none:=⟨St0.empty,by simp⟩
theorem floor_nonneg (keep:Int)(h:Option Vx):0≤floor keep h:=by
 cases h with
 | none=>exact Int.le_refl 0
 | some v=>show 0≤max _ _; omega
theorem newTop_lead (h:Option Vx)(v:Vx){L:List Vx}(ht:Top h L):∀ u∈v :: L,Vx.lead u (newTop h v) = false:=by
 intro u hu
 cases h with
 | none=>
  obtain rfl:L = []:=ht;rw [List.mem_singleton.1 hu];exact Vx.lead_self v
 | some t=>
  obtain⟨h1,h2⟩:=ht
  by_cases hl:Vx.lead v t = true
  ·simp only [newTop,if_pos hl]
   rcases List.mem_cons.1 hu with rfl | hu
   ·exact Vx.lead_self _
   ·cases hc:Vx.lead u v with
    | false=>rfl
    | true=>
     have h3:=Vx.lead_trans hc hl;rw [h2 u hu] at h3
     cases h3
  ·simp only [newTop,if_neg hl]
   rcases List.mem_cons.1 hu with rfl | hu
   ·simpa using hl
   ·exact h2 u hu
theorem newTop_mem (h:Option Vx)(v:Vx){L:List Vx}(ht:Top h L):newTop h v∈v :: L:=by
 cases h with
 | none=>exact List.mem_cons_self
 | some t=>
  by_cases hl:Vx.lead v t = true
  ·simp only [newTop,if_pos hl]; exact List.mem_cons_self
  ·simp only [newTop,if_neg hl]; exact List.mem_cons_of_mem _ ht.1
theorem newTop_dep (t v:Vx):t.dep≤(newTop (some t) v).dep:=by
 by_cases hl:Vx.lead v t = true
 ·simp only [newTop,if_pos hl]
  rw [Vx.lead_iff] at hl
  omega
 ·simp only [newTop,if_neg hl]
  exact Int.le_refl _
theorem floor_grows (keep:Int)(h:Option Vx)(v:Vx):floor keep h≤floor keep (some (newTop h v)):=by
 cases h with
 | none=>exact floor_nonneg keep _
 | some t=>
  have:=newTop_dep t v;show max _ _≤max _ _
  omega
theorem floor_low {keep:Int}(hk:0≤keep){t:Vx}(ht:0≤t.dep):floor keep (some t)≤t.dep:=by
 show max _ _≤_
 omega
def after (keep:Int)(L:List Vx)(h:Option Vx)(v:Vx):List Vx:=(v :: L).filter fun u=>decide (floor keep (some (newTop h v))≤u.dep)
def gone (keep:Int)(L:List Vx)(h:Option Vx)(v:Vx):List Vx:=(v :: L).filter fun u=>decide (u.dep < floor keep (some (newTop h v)))
theorem mem_after {keep:Int}{L:List Vx}{h:Option Vx}{v u:Vx}:u∈after keep L h v↔(u = v∨u∈L)∧floor keep (some (newTop h v))≤u.dep:=by
 simp [after]
theorem St.insert {keep:Int}{L:List Vx}{h:Option Vx}(hs:St keep L h)(hk:0≤keep){v:Vx}(hv:v.Ok)(h0:0≤v.dep)(h1:v.dep≤4611686018427387903)(hn:v.id∉ids L):St keep (after keep L h v) (some (newTop h v)):=by
 have hok:∀ u∈v :: L,u.Ok∧0≤u.dep∧u.dep≤4611686018427387903:=by
  intro u hu
  rcases List.mem_cons.1 hu with rfl | hu
  ·exact⟨hv,h0,h1⟩
  ·exact hs.ok u hu
 have htm:=newTop_mem h v hs.top;refine⟨⟨⟨?_,fun u hu=>?_⟩,fun u hu=>?_,?_⟩,fun u hu=>?_⟩
 ·rw [after,List.mem_filter]
  exact⟨htm,by simpa using floor_low hk (hok _ htm).2.1⟩
 ·exact newTop_lead h v hs.top u (List.mem_filter.1 hu).1
 ·exact hok u (List.mem_filter.1 hu).1
 ·have hnd:(ids (v :: L)).Nodup:=by
   simp only [ids,List.map_cons,List.nodup_cons];exact⟨hn,hs.nodup⟩
  exact hnd.sublist (List.Sublist.map _ List.filter_sublist)
 ·simpa using (List.mem_filter.1 hu).2
theorem St0.cons {L:List Vx}{h:Option Vx}(hs:St0 L h){v:Vx}(hv:v.Ok)(h0:0≤v.dep)(h1:v.dep≤4611686018427387903)(hn:v.id∉ids L):St0 (v :: L) (some (newTop h v)):=by
 refine⟨⟨newTop_mem h v hs.top,newTop_lead h v hs.top⟩,fun u hu=>?_,?_⟩
 ·rcases List.mem_cons.1 hu with rfl | hu
  ·exact⟨hv,h0,h1⟩
  ·exact hs.ok u hu
 ·simp only [ids,List.map_cons,List.nodup_cons]
  exact⟨hn,hs.nodup⟩
theorem St0.less {L:List Vx}{t:Vx}(hs:St0 L (some t)){p:Vx→Bool}(hp:p t = true):St0 (L.filter p) (some t):=
 ⟨⟨List.mem_filter.2 ⟨hs.top.1,hp⟩,fun u hu=>hs.top.2 u (List.mem_filter.1 hu).1⟩,fun u hu=>hs.ok u (List.mem_filter.1 hu).1,hs.nodup.sublist (List.Sublist.map _ List.filter_sublist)⟩
structure Reach (keep:Int) (l L:List Vx) (h:Option Vx):Prop where
 st:St keep L h
 mem:∀ u,u∈L↔u∈l∧floor keep h≤u.dep
 all:Top h l
theorem Reach.empty (keep:Int):Reach keep [] [] none:=⟨St.empty keep,by simp,rfl⟩
theorem Reach.step {keep:Int}{l L:List Vx}{h:Option Vx}(hr:Reach keep l L h)(hk:0≤keep){v:Vx}(hv:v.Ok)(h0:0≤v.dep)(h1:v.dep≤4611686018427387903)(hn:v.id∉ids L):Reach keep (l ++ [v]) (after keep L h v) (some (newTop h v)):=by
 refine⟨hr.st.insert hk hv h0 h1 hn,fun u=>?_,?_,fun u hu=>?_⟩
 ·rw [mem_after]
  have hf:=floor_grows keep h v
  constructor
  ·rintro ⟨hu,hd⟩
   refine⟨?_,hd⟩
   rcases hu with rfl | hu
   ·simp
   ·simp [((hr.mem u).1 hu).1]
  ·rintro ⟨hu,hd⟩
   refine⟨?_,hd⟩
   rcases List.mem_append.1 hu with hu | hu
   ·exact .inr ((hr.mem u).2 ⟨hu,Int.le_trans hf hd⟩)
   ·exact .inl (by simpa using hu)
 ·have:=newTop_mem h v hr.all
  rw [List.mem_cons] at this;rw [List.mem_append,List.mem_singleton];exact this.symm
 ·refine newTop_lead h v hr.all u ?_
  rw [List.mem_append,List.mem_singleton] at hu;rw [List.mem_cons];exact hu.symm
theorem ids_one {L:List Vx}(hn:(ids L).Nodup){a b:Vx}(ha:a∈L)(hb:b∈L)(he:a.id = b.id):a = b:=by
 induction L with
 | nil=>cases ha
 | cons x L ih=>
  simp only [ids,List.map_cons,List.nodup_cons] at hn
  rcases List.mem_cons.1 ha with h1 | h1
  ·rcases List.mem_cons.1 hb with h2 | h2
   ·rw [h1,h2]
   ·exact absurd (List.mem_map_of_mem (f:=Vx.id) h2) (by rw [← he,h1]; exact hn.1)
  ·rcases List.mem_cons.1 hb with h2 | h2
   ·exact absurd (List.mem_map_of_mem (f:=Vx.id) h1) (by rw [he,h2]; exact hn.1)
   ·exact ih hn.2 h1 h2
theorem nodup_of_ids:∀ {L:List Vx},(ids L).Nodup→L.Nodup
 | [],_=>List.nodup_nil
 | x :: L,h=>by
  simp only [ids,List.map_cons,List.nodup_cons] at h;rw [List.nodup_cons];exact⟨fun hx=>h.1 (List.mem_map_of_mem hx),nodup_of_ids h.2⟩
theorem St.one {keep:Int}{L:List Vx}{h:Option Vx}(hs:St keep L h){a b:Vx}(ha:a∈L)(hb:b∈L)(he:a.id = b.id):a = b:=ids_one hs.nodup ha hb he
theorem Reach.same {keep:Int}{l m A B:List Vx}{x y:Option Vx}(ha:Reach keep l A x)(hb:Reach keep m B y)(hlm:∀ u,u∈l↔u∈m):x = y∧(∀ u,u∈A↔u∈B)∧A.length = B.length:=by
 have hxy:x = y:=by
  cases x with
  | none=>
   cases y with
   | none=>rfl
   | some t=>
    have h1:l = []:=ha.all;have h2:=(hlm t).2 hb.all.1;rw [h1] at h2
    cases h2
  | some s=>
   cases y with
   | none=>
    have h1:m = []:=hb.all;have h2:=(hlm s).1 ha.all.1;rw [h1] at h2
    cases h2
   | some t=>
    have h1:=ha.all.2 t ((hlm t).2 hb.all.1);have h2:=hb.all.2 s ((hlm s).1 ha.all.1);rw [Vx.lead_no] at h1 h2;have hd:s.dep = t.dep:=by omega
    have hid:s.id = t.id:=by
     by_cases he:s.id = t.id
     ·exact he
     ·have h3:=Bk.less_total (h2.2 hd) he
      rw [h1.2 hd.symm] at h3
      cases h3
    have hsA:s∈A:=ha.st.top.1;have htA:t∈A:=(ha.mem t).2 ⟨(hlm t).2 hb.all.1,by have:=(ha.mem s).1 hsA; omega⟩
    rw [ha.st.one hsA htA hid]
 subst hxy;have hm:∀ u,u∈A↔u∈B:=fun u=>by rw [ha.mem,hb.mem,hlm]
 refine⟨rfl,hm,?_⟩;have h1:A.Nodup:=nodup_of_ids ha.st.nodup;have h2:B.Nodup:=nodup_of_ids hb.st.nodup;exact((List.perm_ext_iff_of_nodup h1 h2).2 hm).length_eq
end Dg
end Go.Proofs.Ytfbfdaeagpdaiaa
