/-
 Rows of vertices; the sort of them.
-/
import Derived.Test.YtfbfdaeagpdaiaaDagOrder
import Derived.Test.YtfbfdaeagpdaiaaGD
import Derived.Test.YtfbfdaeagpdaiaaSortLay
set_option maxRecDepth 100000
namespace Go.Proofs.Ytfbfdaeagpdaiaa
open Go.RowKit Go.Lib
open List renaming setIfInBounds_toArray → sA, set_cons_zero → sB, set_cons_succ → sC
open BigFrame renaming wpList_want → wQ
def vflat (M:List Vx):List Value:=(M.map Vx.cells).flatten
theorem vflat_at:∀ (M:List Vx),(∀ x∈M,x.Ok)→∀ i (hi:i < M.length) j,j < 66→(vflat M)[i * 66 + j]? = (M[i].cells)[j]?
 | [],_,i,hi,_,_=>absurd hi (Nat.not_lt_zero _)
 | x :: M,h,0,_,j,hj=>by
  have hx:=Vx.cells_length (h x (by simp))
  unfold vflat;rw [List.map_cons,List.flatten_cons,Nat.zero_mul,Nat.zero_add,List.getElem?_append_left (by omega)]
  rfl
 | x :: M,h,i + 1,hi,j,hj=>by
  have hx:=Vx.cells_length (h x (by simp))
  unfold vflat;rw [List.map_cons,List.flatten_cons,List.getElem?_append_right (by omega),show(i + 1) * 66 + j - x.cells.length = i * 66 + j by omega]
  exact vflat_at M (fun y hy=>h y (by simp [hy])) i (by simpa using hi) j hj
theorem vflat_length:∀ (M:List Vx),(∀ x∈M,x.Ok)→(vflat M).length = M.length * 66
 | [],_=>rfl
 | x :: M,h=>by
  have ih:=vflat_length M (fun y hy=>h y (by simp [hy]))
  unfold vflat at ih ⊢;rw [List.map_cons,List.flatten_cons,List.length_append,ih,Vx.cells_length (h x (by simp)),List.length_cons]
  omega
theorem vflat_append (A B:List Vx):vflat (A ++ B) = vflat A ++ vflat B:=by simp [vflat]
theorem vflat_one (M:List Vx):∀ u∈vflat M,u.oneCell' = true:=by
 intro u hu;rw [vflat,List.mem_flatten] at hu;obtain⟨l,hl,hul⟩:=hu;obtain⟨x,_,rfl⟩:=List.mem_map.1 hl;exact Vx.cells_one x u hul
def Vs (w:World)(v:Value)(M:List Vx):Prop:=(∀ x∈M,x.Ok)∧∃ ad g c,v = .slice ad M.length c∧∀ i (hi:i < M.length),ad = some ⟨g,0,none⟩∧g < w.heap.size∧w.rangeAt g (i * 66) M[i].cells
theorem Vs.kept {w w':World}{v:Value}{M:List Vx}(h:Vs w v M)(k:Kept w.heap.size w.heap.size w w'):Vs w' v M:=by
 obtain⟨h0,ad,g,c,rfl,h1⟩:=h;refine⟨h0,ad,g,c,rfl,fun i hi=>?_⟩
 obtain⟨a,b,d⟩:=h1 i hi;exact⟨a,Nat.lt_of_lt_of_le b k.size,rangeAt_kept k d b (Nat.ne_of_lt b)⟩
theorem Vs.nil (w:World):Vs w (.slice none 0 0) []:=⟨(fun _ h=>nomatch h),none,0,0,rfl,fun _ h=>absurd h (Nat.not_lt_zero _)⟩
def OwnV (w:World)(base:Nat)(v:Value)(M:List Vx):Prop:=(∀ x∈M,x.Ok)∧w.ownsRow base 36 66 v M.length (vflat M)
theorem OwnV.nil (w:World)(base:Nat):OwnV w base (.slice none 0 0) []:=⟨(fun _ h=>nomatch h),World.ownsRow_nil w base 36 66⟩
theorem OwnV.vs {w:World}{base:Nat}{v:Value}{M:List Vx}(h:OwnV w base v M):Vs w v M:=by
 obtain⟨h32,ho⟩:=h;refine⟨h32,?_⟩;have hlt:=ho.lt;have h0:=ho
 rcases ho.2 with ⟨rfl,hn⟩ | ⟨g,cap,cur,rfl,hb,_⟩
 ·obtain rfl:=List.length_eq_zero_iff.1 hn
  exact⟨none,0,0,rfl,fun _ h=>absurd h (Nat.not_lt_zero _)⟩
 ·refine⟨some ⟨g,0,none⟩,g,cap,rfl,fun i hi=>⟨rfl,(hlt g rfl).2,fun j u hu=>?_⟩⟩
  have hx:=Vx.cells_length (h32 M[i] (List.getElem_mem hi))
  have hj:j < 66:=by
   rcases Nat.lt_or_ge j 66 with h1 | h1
   ·exact h1
   ·rw [List.getElem?_eq_none (by rw [hx]; exact h1)] at hu; cases hu
  have h2:=h0.cells (g:=g) rfl (i * 66 + j) u (by rw [vflat_at M h32 i hi j hj]; exact hu)
  rw [Addr.add_lit,Nat.zero_add] at h2;exact h2
abbrev VxO:Type:={v:Vx // v.Ok}
instance:Inhabited VxO:=⟨⟨Vx.zero,Vx.zero_ok⟩⟩
def encV (x:VxO):List Value:=x.1.cells
def cmpO (x y:VxO):Int:=cmpV x.1 y.1
theorem cmpV_neg (a b:Vx):cmpV a b < 0↔a.dep < b.dep∨a.dep = b.dep∧Bk.less a.id b.id = true:=by
 unfold cmpV orI cmpI Bk.less
 by_cases h1:a.dep < b.dep
 ·simp [h1]
 ·by_cases h2:a.dep > b.dep
  ·have h3:¬ a.dep = b.dep:=by omega
   simp [h1,h2,h3]
  ·have h3:a.dep = b.dep:=by omega
   simp [h3]
theorem ltO (x y:VxO):Go.Proofs.ltOf cmpO x y = true↔x.1.dep < y.1.dep∨x.1.dep = y.1.dep∧Bk.less x.1.id y.1.id = true:=by
 unfold Go.Proofs.ltOf cmpO;rw [decide_eq_true_iff];exact cmpV_neg _ _
theorem ltO_no (x y:VxO):Go.Proofs.ltOf cmpO x y = false↔y.1.dep≤x.1.dep∧(x.1.dep = y.1.dep→Bk.less x.1.id y.1.id = false):=by
 have h:=ltO x y
 cases hl:Go.Proofs.ltOf cmpO x y with
 | true=>
  rw [hl] at h;simp only [Bool.true_eq_false,false_iff];rintro ⟨h1,h2⟩
  rcases h.1 rfl with h3 | ⟨h3,h4⟩
  ·omega
  ·rw [h2 h3] at h4; cases h4
 | false=>
  rw [hl] at h;simp only [true_iff];have hn:¬ (x.1.dep < y.1.dep∨x.1.dep = y.1.dep∧Bk.less x.1.id y.1.id = true):=fun hh=>by cases h.2 hh
  refine⟨by omega,fun he=>?_⟩
  cases hb:Bk.less x.1.id y.1.id with
  | false=>rfl
  | true=>exact absurd (.inr ⟨he,hb⟩) hn
theorem swoV:Go.Sort.SWO (Go.Proofs.ltOf cmpO) where
 irrefl x:=by rw [ltO_no]; exact⟨Int.le_refl _,fun _=>Bk.less_irrefl _⟩
 trans x y z h1 h2:=by
  rw [ltO] at *
  rcases h1 with h1 | ⟨h1,h3⟩ <;> rcases h2 with h2 | ⟨h2,h4⟩
  ·exact .inl (by omega)
  ·exact .inl (by omega)
  ·exact .inl (by omega)
  ·exact .inr ⟨by omega,Bk.less_trans h3 h4⟩
 ntrans x y z h1 h2:=by
  rw [ltO_no] at *;refine⟨by omega,fun he=>?_⟩
  have h3:=h1.2 (by omega)
  have h4:=h2.2 (by omega)
  cases hl:Bk.less x.1.id z.1.id with
  | false=>rfl
  | true=>
   by_cases hxy:x.1.id = y.1.id
   ·rw [hxy] at hl; rw [hl] at h4; cases h4
   ·have h5:=Bk.less_trans (Bk.less_total h3 hxy) hl
    rw [h5] at h4; cases h4
theorem cmpLaysV (blk off size:Nat)(w:World):Go.Proofs.CmpLays Try.prog 24 #[] encV 66 cmpO blk off size w:=
 fun _ _ _ _ x y=>(order15 x.1 y.1 x.2 y.2 _).mono fun _ _ ⟨h1,q,os,h2⟩=>⟨h1,q,os,h2⟩
def toVL:(R:List Vx)→(∀ x∈R,x.Ok)→List VxO
 | [],_=>[]
 | x :: R,h=>⟨x,h x (by simp)⟩ :: toVL R (fun y hy=>h y (by simp [hy]))
theorem toVL_map:∀ (R:List Vx) (h:∀ x∈R,x.Ok),(toVL R h).map (fun x=>x.1) = R
 | [],_=>rfl
 | x :: R,h=>by rw [toVL,List.map_cons,toVL_map R]
def toV (R:List Vx)(h:∀ x∈R,x.Ok):Array VxO:=(toVL R h).toArray
theorem toV_list (R:List Vx)(h:∀ x∈R,x.Ok):(toV R h).toList.map (fun x=>x.1) = R:=toVL_map R h
theorem toV_size (R:List Vx)(h:∀ x∈R,x.Ok):(toV R h).size = R.length:=by
 have:=congrArg List.length (toV_list R h)
 simpa using this
theorem toV_at (R:List Vx)(h:∀ x∈R,x.Ok)(i:Nat)(hi:i < R.length):((toV R h)[i]!).1 = R[i]:=by
 have hi2:i < (toV R h).size:=by rw [toV_size]; exact hi
 rw [getElem!_pos (toV R h) i hi2];have:=List.getElem_of_eq (toV_list R h) (i:=i) (by simpa using hi2)
 simpa using this
theorem flatV_at {d:Array VxO}{i j:Nat}(hi:i < d.size)(hj:j < 66):(Go.Sort.flatK encV 66 d)[i * 66 + j]! = (encV d[i]!)[j]!:=by
 have ht:i * 66 + j < d.size * 66:=by omega
 rw [Go.Sort.get_flatK _ _ _ _ ht,show(i * 66 + j) / 66 = i by omega,show(i * 66 + j) % 66 = j by omega]
theorem sort15 (R:List Vx)(base g c:Nat)(w:World)(hR:OwnV w base (.slice (some ⟨g,0,none⟩) R.length c) R)(hn:R.length < 1073741824):
  Calls Try.prog 23 #[.slice (some ⟨g,0,none⟩) R.length c,.func (.func 24) #[] #[]] w fun e w'=>e = .returned (.tuple #[])∧∃ R',R'.Perm R∧Vs w' (.slice (some ⟨g,0,none⟩) R.length c) R'∧Kept w.heap.size g w w':=by
 obtain⟨h32,ho⟩:=hR;have hg:g < w.heap.size:=(ho.lt g rfl).2
 have hgg:∃ cur,w.heap[g]? = some (.cells cur 36 (0,0)):=by
  rcases ho.2 with ⟨h,_⟩ | ⟨g',cap,cur,hv,_,hh,_⟩
  ·cases h
  ·cases hv
   exact⟨cur,hh⟩
 obtain⟨cur,hcur⟩:=hgg
 have hH:Go.Sort.HoldsK encV 66 w g 0 (toV R h32):=fun t ht=>by
  rw [Go.Sort.size_flatK,toV_size] at ht;have hi:t / 66 < R.length:=by omega
  have hj:t % 66 < 66:=Nat.mod_lt _ (by decide)
  have hat:=flatV_at (d:=toV R h32) (i:=t / 66) (j:=t % 66) (by rw [toV_size]; exact hi) hj
  rw [show t / 66 * 66 + t % 66 = t by omega] at hat
  refine⟨?_,by simp [World.frozen?,hcur]⟩
  have hx32:=Vx.cells_length (h32 _ (List.getElem_mem hi));have hfl:=vflat_at R h32 (t / 66) hi (t % 66) hj;rw [show t / 66 * 66 + t % 66 = t by omega] at hfl
  have hjl:t % 66 < (R[t / 66]'hi).cells.length:=by rw [hx32]; exact hj
  have hc:=ho.cells (g:=g) rfl t ((R[t / 66]'hi).cells[t % 66]'hjl) (by rw [hfl,List.getElem?_eq_getElem hjl])
  rw [Addr.add_lit] at hc;rw [hc,hat];have e1:=toV_at R h32 (t / 66) hi;simp only [encV,e1];rw [getElem!_pos (R[t / 66]'hi).cells (t % 66) hjl]
  rfl
 have eg:∀ args w,(callFunc 24 args).run Try.prog w = .ok (.enter 24 args) w:=enters_of Try.func24 (by kernel_rfl) rfl
 have hcon:=Go.Proofs.AnyQ.slices_SortFunc Try.sortH 66 Try.isAgg36 Try.sizeOf36 encV (fun x=>Vx.cells_length x.2) (fun x v hv=>Vx.cells_one x.1 v hv) cmpO swoV 24 #[] g 0 c (toV R h32) w eg (cmpLaysV g 0 _ w) hH hg (by rw [toV_size]; omega)
 rw [toV_size] at hcon;refine hcon.mono ?_;rintro e w' ⟨rfl,d',n,os,hp,hs,rfl⟩;obtain⟨p1,_,p3⟩:=hp;rw [toV_size] at p1;have p1':d'.size = R.length:=p1
 have hd:∀ x∈d'.toList.map (fun x=>x.1),x.Ok:=fun x hx=>by
  obtain⟨y,_,rfl⟩:=List.mem_map.1 hx;exact y.2
 have hlen:(d'.toList.map (fun x=>x.1)).length = R.length:=by simp [p1']
 refine⟨rfl,d'.toList.map (fun x=>x.1),?_,?_,?_⟩
 ·have h1:(d'.extract 0 R.length).toList = d'.toList:=by rw [Array.toList_extract,List.extract_eq_take_drop,List.drop_zero]; exact List.take_of_length_le (by rw [Array.length_toList]; omega)
  have h2:((toV R h32).extract 0 R.length).toList = (toV R h32).toList:=by rw [Array.toList_extract,List.extract_eq_take_drop,List.drop_zero]; exact List.take_of_length_le (by rw [Array.length_toList,toV_size]; omega)
  rw [h1,h2] at p3;have:=p3.map (fun x:VxO=>x.1)
  rwa [toV_list] at this
 ·refine⟨hd,some ⟨g,0,none⟩,g,c,by rw [hlen],fun i hi=>⟨rfl,?_,fun j v hv=>?_⟩⟩
  ·show g < (Go.Sort.grow (Go.Sort.putRowK encV 66 (Go.Sort.ahead w n) g 0 d') os).heap.size
   simp [Go.Sort.grow,Go.Sort.putRowK];have:(Go.Sort.ahead w n).heap.size = w.heap.size:=rfl
   omega
  ·have hi2:i < d'.size:=by simpa using hi
   have hxl:=Vx.cells_length (hd _ (List.getElem_mem hi))
   have hj:j < 66:=by
    rcases Nat.lt_or_ge j 66 with h1 | h1
    ·exact h1
    ·rw [List.getElem?_eq_none (by rw [hxl]; exact h1)] at hv; cases hv
   have hh:=Go.Sort.holdsK_putRowK (enc:=encV) (k:=66) (Go.Sort.ahead w n) g 0 (toV R h32) d' (fun t ht=>hH t ht) (by rw [p1',toV_size]) (i * 66 + j) (by rw [Go.Sort.size_flatK]; omega)
   rw [flatV_at hi2 hj] at hh;show(Go.Sort.grow (Go.Sort.putRowK encV 66 (Go.Sort.ahead w n) g 0 d') os).cell? _ = _;rw [Go.Sort.cell?_grow _ _ _ (by show g < _; simp [Go.Sort.putRowK]; exact hg)]
   rw [show i * 66 + j = 0 + (i * 66 + j) by omega]
   rw [hh.1,getElem!_pos d' i hi2];simp only [List.getElem_map,Array.getElem_toList] at hv;have hjl:j < (d'[i].1).cells.length:=by rw [Vx.cells_length d'[i].2]; exact hj
   rw [encV,getElem!_pos (d'[i].1).cells j hjl];rw [List.getElem?_eq_getElem hjl] at hv;exact hv
 ·refine⟨rfl,rfl,rfl,by
   show w.heap.size≤(Go.Sort.grow (Go.Sort.putRowK encV 66 (Go.Sort.ahead w n) g 0 d') os).heap.size
   simp [Go.Sort.grow,Go.Sort.putRowK,Go.Sort.ahead],fun k hk hne=>?_⟩
  show(Go.Sort.grow (Go.Sort.putRowK encV 66 (Go.Sort.ahead w n) g 0 d') os).heap[k]? = _;rw [Go.Sort.heap_grow_old _ _ (by simp [Go.Sort.putRowK]; exact hk)]
  simp [Go.Sort.putRowK,Go.Sort.putRow,Go.Sort.mapBlock,Go.Sort.ahead,Array.getElem?_modify,Ne.symm hne]
end Go.Proofs.Ytfbfdaeagpdaiaa
