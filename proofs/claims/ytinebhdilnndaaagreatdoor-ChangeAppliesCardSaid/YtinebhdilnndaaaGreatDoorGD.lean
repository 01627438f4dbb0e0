/-
 BookRow; BookOwn; BookHash; BookMath; BookPut; BookHas; BookFacts; BookOpen: several texts in one.
-/
import Derived.Test.YtinebhdilnndaaaGreatDoorProg
import Derived.Test.YtinebhdilnndaaaGreatDoorGA
import Derived.Stop.BytesEq
import Derived.Lib.Hide
import Derived.Deep.MidRow
import Derived.Deep.Cut
import Derived.Laws.AppendOwn
import Derived.Laws.OwnMore
import Derived.Maps.AppendAt
import Derived.Test.YtinebhdilnndaaaGreatDoorGB
import Derived.Deep.CutBlock
import Derived.Deep.DeepCutAuto
import Derived.Test.YtinebhdilnndaaaGreatDoorRows
import Derived.ProofKit
import Derived.OpenShut
namespace Go.Proofs.YtinebhdilnndaaaGreatDoor
open Go.RowKit Go.Lib
open List renaming setIfInBounds_toArray -> sA, set_cons_zero -> sB, set_cons_succ -> sC
open BigFrame renaming wpList_want -> wQ
def Hs (w:World)(v:Value)(L:List (List UInt8)):Prop:=
 (∀ x∈L,x.length = 32)/\∃ ad g o c,v = .slice ad L.length c/\∀ i (hi:i < L.length),ad = some ⟨g,o,none⟩/\g < w.heap.size/\w.rangeAt g (o + i * 32) (bcells L[i])
theorem rangeAt_kept {base b:Nat}{w w':World}(k:Kept base b w w'){g o:Nat}{cs:List Value}(h:w.rangeAt g o cs)(hg:g < base)(hb:g≠b):w'.rangeAt g o cs:=λj v hv=>(k.cell (p:=⟨g,o + j,none⟩) hg hb).trans (h j v hv)
theorem Hs.kept {w w':World}{v:Value}{L:List (List UInt8)}(h:Hs w v L)(k:Kept w.heap.size w.heap.size w w'):Hs w' v L:=by
 obtain⟨h0,ad,g,o,c,rfl,h1⟩:=h;refine⟨h0,ad,g,o,c,rfl,λi hi=>?_⟩
 obtain⟨a,b,d⟩:=h1 i hi;exact⟨a,Nat.lt_of_lt_of_le b k.size,rangeAt_kept k d b (Nat.ne_of_lt b)⟩
theorem Hs.nil (w:World):Hs w (.slice none 0 0) []:=⟨(λ_ h=>nomatch h),none,0,0,0,rfl,λ_ h=>absurd h (Nat.not_lt_zero _)⟩
def Own (w:World)(base:Nat)(v:Value)(M:List (List UInt8)):Prop:=(∀ x∈M,x.length = 32)/\w.ownsRow base 29 32 v M.length (bcells M.flatten)
theorem Own.nil (w:World)(base:Nat):Own w base (.slice none 0 0) []:=⟨(λ_ h=>nomatch h),World.ownsRow_nil w base 29 32⟩
theorem flatten_at:∀ (M:List (List UInt8)),(∀ x∈M,x.length = 32)->∀ i (hi:i < M.length) j,j < 32->M.flatten[i * 32 + j]? = M[i][j]?
 | [],_,i,hi,_,_=>absurd hi (Nat.not_lt_zero _)
 | x :: M,h,0,_,j,hj=>by
  have hx:=h x (by simp)
  rw [List.flatten_cons,Nat.zero_mul,Nat.zero_add,List.getElem?_append_left (by omega)]
  rfl
 | x :: M,h,i + 1,hi,j,hj=>by
  have hx:=h x (by simp)
  rw [List.flatten_cons,List.getElem?_append_right (by omega),show(i + 1) * 32 + j - x.length = i * 32 + j by omega]
  exact flatten_at M (λy hy=>h y (by simp [hy])) i (by simpa using hi) j hj
theorem flatten_length:∀ (M:List (List UInt8)),(∀ x∈M,x.length = 32)->M.flatten.length = M.length * 32
 | [],_=>rfl
 | x :: M,h=>by
  rw [List.flatten_cons,List.length_append,flatten_length M (λy hy=>h y (by simp [hy])),h x (by simp),List.length_cons]
  omega
theorem Own.hs {w:World}{base:Nat}{v:Value}{M:List (List UInt8)}(h:Own w base v M):Hs w v M:=by
 obtain⟨h32,ho⟩:=h;refine⟨h32,?_⟩;have hlt:=ho.lt;have h0:=ho
 rcases ho.2 with ⟨rfl,hn⟩ | ⟨g,cap,cur,rfl,hb,_⟩
 ·obtain rfl:=List.length_eq_zero_iff.1 hn
  exact⟨none,0,0,0,rfl,λ_ h=>absurd h (Nat.not_lt_zero _)⟩
 ·refine⟨some ⟨g,0,none⟩,g,0,cap,rfl,λi hi=>⟨rfl,(hlt g rfl).2,λj u hu=>?_⟩⟩
  have hx:=h32 M[i] (List.getElem_mem hi)
  have hj:j < 32:=by
   rcases Nat.lt_or_ge j 32 with h1 | h1
   ·exact h1
   ·rw [List.getElem?_eq_none (by rw [bcells_length,hx]; exact h1)] at hu; cases hu
  have h2:=h0.cells (g:=g) rfl (i * 32 + j) u (by
   rw [bcells,List.getElem?_map] at hu |-;rw [flatten_at M h32 i hi j hj]
   exact hu)
  rw [Addr.add_lit,Nat.zero_add] at h2;rw [Nat.zero_add];exact h2
theorem Own.alloc {w:World}{base:Nat}{v:Value}{M:List (List UInt8)}(h:Own w base v M)(o:Obj):Own (w.alloc o) base v M:=⟨h.1,h.2.alloc o⟩
theorem Own.kept {w w':World}{base b:Nat}{v:Value}{M:List (List UInt8)}(h:Own w base v M)(k:Kept w.heap.size b w w')(hb:w.heap.size<=b):Own w' base v M:=
 ⟨h.1,h.2.kept (row:=none) ⟨k.os,k.tape,k.output,k.size,λi hi _=>k.block i hi (by omega)⟩ (by cases hv:v.ownBlock <;> simp)⟩
def OwnH (w:World)(base:Nat)(v:Value)(M:List (List UInt8)):Prop:=(∀ x∈M,x.length = 32)/\w.ownsRow base 30 32 v M.length (bcells M.flatten)
theorem OwnH.nil (w:World)(base:Nat):OwnH w base (.slice none 0 0) []:=⟨(λ_ h=>nomatch h),World.ownsRow_nil w base 30 32⟩
theorem OwnH.hs {w:World}{base:Nat}{v:Value}{M:List (List UInt8)}(h:OwnH w base v M):Hs w v M:=by
 obtain⟨h32,ho⟩:=h;refine⟨h32,?_⟩;have hlt:=ho.lt;have h0:=ho
 rcases ho.2 with ⟨rfl,hn⟩ | ⟨g,cap,cur,rfl,hb,_⟩
 ·obtain rfl:=List.length_eq_zero_iff.1 hn
  exact⟨none,0,0,0,rfl,λ_ h=>absurd h (Nat.not_lt_zero _)⟩
 ·refine⟨some ⟨g,0,none⟩,g,0,cap,rfl,λi hi=>⟨rfl,(hlt g rfl).2,λj u hu=>?_⟩⟩
  have hx:=h32 M[i] (List.getElem_mem hi)
  have hj:j < 32:=by
   rcases Nat.lt_or_ge j 32 with h1 | h1
   ·exact h1
   ·rw [List.getElem?_eq_none (by rw [bcells_length,hx]; exact h1)] at hu; cases hu
  have h2:=h0.cells (g:=g) rfl (i * 32 + j) u (by
   rw [bcells,List.getElem?_map] at hu |-;rw [flatten_at M h32 i hi j hj]
   exact hu)
  rw [Addr.add_lit,Nat.zero_add] at h2;rw [Nat.zero_add];exact h2
theorem OwnH.alloc {w:World}{base:Nat}{v:Value}{M:List (List UInt8)}(h:OwnH w base v M)(o:Obj):OwnH (w.alloc o) base v M:=⟨h.1,h.2.alloc o⟩
theorem OwnH.kept {w w':World}{base b:Nat}{v:Value}{M:List (List UInt8)}(h:OwnH w base v M)(k:Kept w.heap.size b w w')(hb:w.heap.size<=b):OwnH w' base v M:=
 ⟨h.1,h.2.kept (row:=none) ⟨k.os,k.tape,k.output,k.size,λi hi _=>k.block i hi (by omega)⟩ (by cases hv:v.ownBlock <;> simp)⟩
theorem OwnH.init {w:World}{base g c:Nat}{n:Nat}{M:List (List UInt8)}(h:OwnH w base (.slice (some ⟨g,0,none⟩) n c) M)(hn:n = M.length):OwnH w base (.slice (some ⟨g,0,none⟩) (n - 1) c) M.dropLast:=by
 obtain⟨h32,ho⟩:=h;subst hn;refine⟨λx hx=>h32 x (List.dropLast_subset M hx),?_⟩
 have hfl:M.dropLast.flatten = M.flatten.take ((M.length - 1) * 32):=by
  rcases List.eq_nil_or_concat M with rfl | ⟨L,x,rfl⟩
  ·rfl
  ·have hl:=flatten_length L (λy hy=>h32 y (by simp [hy]))
   rw [List.concat_eq_append,List.dropLast_concat,List.flatten_append,List.length_append,List.length_singleton,Nat.add_sub_cancel,<- hl,List.take_left]
 rcases ho.2 with ⟨h,_⟩ | ⟨g',cap,cur,hv,hb,hh,h1,h2,h3,h4⟩
 ·cases h
 ·cases hv
  refine⟨?_,.inr ⟨g,c,cur,?_,hb,hh,by rw [List.length_dropLast]; omega,h2,h3,?_⟩⟩
  ·rw [bcells_length,flatten_length _ (λx hx=>h32 x (List.dropLast_subset M hx))]
  ·rw [List.length_dropLast]
  ·rw [List.length_dropLast,hfl]
   have:bcells (M.flatten.take ((M.length - 1) * 32)) = (bcells M.flatten).take ((M.length - 1) * 32):=by simp [bcells,List.map_take]
   rw [this,<- h4,List.take_take,Nat.min_eq_left (Nat.mul_le_mul_right _ (by omega))]
theorem OwnH.grown {w w':World}{base:Nat}{v:Value}{M:List (List UInt8)}{row:Option Nat}(h:OwnH w base v M)(hg:w.grownBy w' row)(hne:v.ownBlock = none\/v.ownBlock≠row):OwnH w' base v M:=⟨h.1,h.2.kept hg hne⟩
theorem OwnH.mono {w:World}{base base':Nat}{v:Value}{M:List (List UInt8)}(h:OwnH w base v M)(hb:base'<=base):OwnH w base' v M:=by
 refine⟨h.1,h.2.1,?_⟩
 rcases h.2.2 with h1 | ⟨g,cap,cur,hv,hb2,rest⟩
 ·exact .inl h1
 ·exact .inr ⟨g,cap,cur,hv,Nat.le_trans hb hb2,rest⟩
def ints (l:List Nat):List Value:=l.map λ(n:Nat)=>Value.int .i64 (n:Int)
theorem ints_get (l:List Nat)(i:Nat)(hi:i < l.length):(ints l)[i]? = some (.int .i64 (l[i]:Nat)):=by simp [ints,hi]
def OwnI (w:World)(base:Nat)(v:Value)(l:List Nat):Prop:=w.ownsRow base 3 1 v l.length (ints l)
theorem OwnI.nil (w:World)(base:Nat):OwnI w base (.slice none 0 0) []:=World.ownsRow_nil w base _ 1
theorem OwnI.shape {w:World}{base:Nat}{v:Value}{l:List Nat}(h:OwnI w base v l):∃ ad g c,v = .slice ad l.length c/\(l≠[]->ad = some ⟨g,0,none⟩/\g < w.heap.size):=by
 have hlt:=h.lt
 rcases h.2 with ⟨rfl,hn⟩ | ⟨g,cap,cur,rfl,_⟩
 ·refine⟨none,0,0,by rw [hn],λhl=>absurd (List.length_eq_zero_iff.1 hn) hl⟩
 ·exact⟨some ⟨g,0,none⟩,g,cap,rfl,λ_=>⟨rfl,(hlt g rfl).2⟩⟩
theorem OwnI.cell {w:World}{base g n c:Nat}{l:List Nat}(h:OwnI w base (.slice (some ⟨g,0,none⟩) n c) l)(i:Nat)(hi:i < l.length):w.cell? ⟨g,0 + i,none⟩ = some (.int .i64 (l[i]:Nat)):=by
 have:=h.cells (g:=g) rfl i _ (ints_get l i hi)
 rwa [Addr.add_lit] at this
namespace Bk
def less (a b:List UInt8):Bool:=decide (compareBytes a b < 0)
def ahead (L:List (List UInt8))(h:List UInt8):List (List UInt8):=L.takeWhile λx=>less x h
def rest (L:List (List UInt8))(h:List UInt8):List (List UInt8):=L.dropWhile λx=>less x h
def put (L:List (List UInt8))(h:List UInt8):List (List UInt8):=ahead L h ++ [h] ++ (rest L h).filter λx=>!(x == h)
theorem ahead_rest (L:List (List UInt8))(h:List UInt8):ahead L h ++ rest L h = L:=List.takeWhile_append_dropWhile
theorem less_trans {a b c:List UInt8}(h:less a b = true)(k:less b c = true):less a c = true:=by
 simp only [less,decide_eq_true_eq] at h k |-;have h1:=cb_trans a b c (by omega) (by omega)
 have h2:=cb_zero a c
 rcases Int.lt_or_eq_of_le h1 with h3 | h3
 ·exact h3
 ·have:=h2.1 h3
  subst this;have h4:=cb_anti a b
  omega
theorem less_total {a b:List UInt8}(h:less a b = false)(hne:a≠b):less b a = true:=by
 have h1:=cb_anti a b;have h2:=cb_zero a b;simp only [less,decide_eq_true_eq,decide_eq_false_iff_not] at h |-
 rcases Int.lt_trichotomy (compareBytes a b) 0 with h3 | h3 | h3
 ·omega
 ·exact absurd (h2.1 h3) hne
 ·omega
def Rising (L:List (List UInt8)):Prop:=L.Pairwise λa b=>less a b = true
theorem Rising.nil:Rising []:=List.Pairwise.nil
theorem mem_put (L:List (List UInt8))(h x:List UInt8):x∈put L h↔x = h\/x∈L:=by
 have e:=ahead_rest L h;simp only [put,List.mem_append,List.mem_singleton,List.mem_filter]
 constructor
 ·rintro ((h1 | h1) | ⟨h1,_⟩)
  ·exact .inr (by rw [<- e]; exact List.mem_append_left _ h1)
  ·exact .inl h1
  ·exact .inr (by rw [<- e]; exact List.mem_append_right _ h1)
 ·rintro (h1 | h1)
  ·exact .inl (.inr h1)
  ·rw [<- e] at h1
   rcases List.mem_append.1 h1 with h2 | h2
   ·exact .inl (.inl h2)
   ·by_cases hx:x = h
    ·exact .inl (.inr hx)
    ·exact .inr ⟨h2,by simpa using hx⟩
theorem ahead_less (L:List (List UInt8))(h x:List UInt8)(hx:x∈ahead L h):less x h = true:=by
 induction L with
 | nil=>simp [ahead] at hx
 | cons y L ih=>
  unfold ahead at hx ih;rw [List.takeWhile_cons] at hx
  split at hx
  ·rename_i hy
   rcases List.mem_cons.1 hx with h1 | h1
   ·rw [h1]
    exact hy
   ·exact ih h1
  ·cases hx
theorem rest_not:∀ (L:List (List UInt8)) (h:List UInt8),Rising L->∀ x∈rest L h,less x h = false
 | [],_,_,x,hx=>by simp [rest] at hx
 | y :: L,h,hr,x,hx=>by
  have hr2:=List.pairwise_cons.1 hr;unfold rest at hx;rw [List.dropWhile_cons] at hx
  split at hx
  ·exact rest_not L h hr2.2 x hx
  ·rename_i hy
   have hy2:less y h = false:=by simpa using hy
   rcases List.mem_cons.1 hx with h1 | h1
   ·rw [h1,hy2]
   ·have h2:=hr2.1 x h1
    cases hxh:less x h with
    | false=>rfl
    | true=>
     have:=less_trans h2 hxh;rw [hy2] at this
     cases this
theorem rising_put (L:List (List UInt8))(h:List UInt8)(hr:Rising L):Rising (put L h):=by
 have e:=ahead_rest L h;have hr2:Rising (ahead L h ++ rest L h):=by rw [e]; exact hr
 obtain⟨h1,h2,h3⟩:=List.pairwise_append.1 hr2;have hn:=rest_not L h hr;unfold put Rising;rw [List.append_assoc];refine List.pairwise_append.2 ⟨h1,?_,?_⟩
 ·rw [List.singleton_append]
  refine List.pairwise_cons.2 ⟨λx hx=>?_,h2.filter _⟩
  obtain⟨hx1,hx2⟩:=List.mem_filter.1 hx;exact less_total (hn x hx1) (by simpa using hx2)
 ·intro a ha b hb
  rcases List.mem_append.1 hb with h4 | h4
  ·rw [List.mem_singleton] at h4
   rw [h4];exact ahead_less L h a ha
  ·exact h3 a ha b (List.mem_filter.1 h4).1
inductive Cl (fs:List (List (List UInt8) × List (List UInt8))) (fr:List (List UInt8)):List UInt8->Prop
 | base (x:List UInt8):x∈fr->Cl fs fr x
 | fact (f:List (List UInt8) × List (List UInt8)) (o:List UInt8):f∈fs->(∀ x∈f.1,Cl fs fr x)->o∈f.2->Cl fs fr o
def Shut (fs:List (List (List UInt8) × List (List UInt8)))(L:List (List UInt8)):Prop:=∀ f∈fs,(∀ x∈f.1,x∈L)->∀ o∈f.2,o∈L
structure Is (fs:List (List (List UInt8) × List (List UInt8))) (fr L:List (List UInt8)):Prop where
 rising:Rising L
 mem:∀ x,x∈L↔Cl fs fr x
end Bk
end Go.Proofs.YtinebhdilnndaaaGreatDoor
namespace Go.Proofs.YtinebhdilnndaaaGreatDoor
open Go.RowKit
theorem Own.mono {w:World}{base base':Nat}{v:Value}{M:List (List UInt8)}(h:Own w base v M)(hb:base'<=base):Own w base' v M:=by
 obtain⟨h1,h2,h3⟩:=h;refine⟨h1,h2,?_⟩
 rcases h3 with h | ⟨g,cap,cur,a,b,c⟩
 ·exact .inl h
 ·exact .inr ⟨g,cap,cur,a,Nat.le_trans hb b,c⟩
end Go.Proofs.YtinebhdilnndaaaGreatDoor
namespace Go.Proofs.YtinebhdilnndaaaGreatDoor
open Go.RowKit Go.Lib
open List renaming setIfInBounds_toArray -> sA, set_cons_zero -> sB, set_cons_succ -> sC
open BigFrame renaming wpList_want -> wQ
def inList (L:List (List UInt8))(h:List UInt8):Bool:=L.contains h
def alikeB (L M:List (List UInt8)):Bool:=L == M
end Go.Proofs.YtinebhdilnndaaaGreatDoor
namespace Go.Proofs.YtinebhdilnndaaaGreatDoor
open Go.RowKit
def Whole (v:Value):Prop:=∀ n c,v = .slice none n c->n = 0/\c = 0
def Fs (w:World)(v:Value)(L:List (List (List UInt8) × List (List UInt8))):Prop:=
 ∃ ad g o c,v = .slice ad L.length c/\∀ i (hi:i < L.length),ad = some ⟨g,o,none⟩/\g < w.heap.size/\∃ a b,w.cell? ⟨g,o + i * 2,none⟩ = some a/\w.cell? ⟨g,o + i * 2 + 1,none⟩ = some b/\Hs w a L[i].1/\Hs w b L[i].2
theorem Fs.kept {w w':World}{v:Value}{L:List (List (List UInt8) × List (List UInt8))}(h:Fs w v L)(k:Kept w.heap.size w.heap.size w w'):Fs w' v L:=by
 obtain⟨ad,g,o,c,rfl,h1⟩:=h;refine⟨ad,g,o,c,rfl,λi hi=>?_⟩
 obtain⟨e,hg,a,b,h2,h3,h4,h5⟩:=h1 i hi;exact⟨e,Nat.lt_of_lt_of_le hg k.size,a,b,(k.cell (p:=⟨g,o + i * 2,none⟩) hg (Nat.ne_of_lt hg)).trans h2,(k.cell (p:=⟨g,o + i * 2 + 1,none⟩) hg (Nat.ne_of_lt hg)).trans h3,h4.kept k,h5.kept k⟩
namespace Bk
def outs (fs:List (List (List UInt8) × List (List UInt8))):List (List UInt8):=fs.flatMap λf=>f.2
def lack (U M:List (List UInt8)):Nat:=(U.filter λx=>!inList M x).length
theorem inList_iff (M:List (List UInt8))(x:List UInt8):inList M x = true↔x∈M:=by
 unfold inList;exact List.contains_iff_mem
theorem inList_not (M:List (List UInt8))(x:List UInt8):inList M x = false↔x∉M:=by
 rw [<- Bool.not_eq_true,inList_iff]
theorem lack_put_le (M:List (List UInt8))(h:List UInt8):∀ U,lack U (put M h)<=lack U M
 | []=>Nat.le_refl _
 | x :: U=>by
  have ih:=lack_put_le M h U;unfold lack at ih |-
  by_cases hx:x∈M
  ·have h1:inList M x = true:=(inList_iff M x).2 hx
   have h2:inList (put M h) x = true:=(inList_iff _ x).2 ((mem_put M h x).2 (.inr hx));simp only [List.filter_cons,h1,h2,Bool.not_true,Bool.false_eq_true,if_false];exact ih
  ·have h1:inList M x = false:=(inList_not M x).2 hx
   cases h2:inList (put M h) x with
   | true=>
    simp only [List.filter_cons,h1,h2,Bool.not_true,Bool.not_false,Bool.false_eq_true,if_false,if_true,List.length_cons]
    omega
   | false=>
    simp only [List.filter_cons,h1,h2,Bool.not_false,if_true,List.length_cons]
    omega
theorem lack_put_lt (M:List (List UInt8))(h:List UInt8)(hm:h∉M):∀ U,h∈U->lack U (put M h) < lack U M
 | [],hu=>by simp at hu
 | x :: U,hu=>by
  have ih:=lack_put_le M h U
  by_cases hx:x = h
  ·subst hx
   have h1:inList M x = false:=(inList_not M x).2 hm;have h2:inList (put M x) x = true:=(inList_iff _ x).2 ((mem_put M x x).2 (.inl rfl));unfold lack at ih |-;simp only [List.filter_cons,h1,h2,Bool.not_true,Bool.not_false,Bool.false_eq_true,if_false,if_true,List.length_cons]
   omega
  ·have hu2:h∈U:=by
    rcases List.mem_cons.1 hu with h3 | h3
    ·exact absurd h3.symm hx
    ·exact h3
   have ih2:=lack_put_lt M h hm U hu2;unfold lack at ih ih2 |-
   have h3:inList (put M h) x = inList M x:=by
    rw [Bool.eq_iff_iff,inList_iff,inList_iff,mem_put];exact⟨λh=>h.resolve_left hx,.inr⟩
   simp only [List.filter_cons,h3]
   cases inList M x <;> simp <;> omega
theorem put_length (M:List (List UInt8))(h:List UInt8):(put M h).length<=M.length + 1:=by
 have e:(ahead M h ++ rest M h).length = M.length:=by rw [ahead_rest]
 have h1:=List.length_filter_le (λx=>!(x == h)) (rest M h)
 rw [List.length_append] at e;simp only [put,List.length_append,List.length_singleton]
 omega
structure Way (fs:List (List (List UInt8) × List (List UInt8))) (fr M:List (List UInt8)):Prop where
 rising:Rising M
 has:∀ x∈fr,x∈M
 cl:∀ x∈M,Cl fs fr x
 len:M.length + lack (outs fs) M<=fr.length + (outs fs).length
theorem Way.put {fs:List (List (List UInt8) × List (List UInt8))}{fr M:List (List UInt8)}(h:Way fs fr M){x:List UInt8}(hu:x∈outs fs)(hm:x∉M)(hc:Cl fs fr x):Way fs fr (put M x):=by
 refine⟨rising_put M x h.rising,λy hy=>(mem_put M x y).2 (.inr (h.has y hy)),λy hy=>?_,?_⟩
 ·rcases (mem_put M x y).1 hy with rfl | h1
  ·exact hc
  ·exact h.cl y h1
 ·have h1:=put_length M x
  have h2:=lack_put_lt M x hm (outs fs) hu;have h3:=h.len
  omega
def Pass (fs:List (List (List UInt8) × List (List UInt8)))(M0 M:List (List UInt8))(m:Bool)(i:Nat):Prop:=
 (m = false->M = M0/\∀ j (hj:j < fs.length),j < i->(∀ x∈fs[j].1,x∈M0)->∀ o∈fs[j].2,o∈M0)/\(m = true->lack (outs fs) M < lack (outs fs) M0)
theorem Pass.start (fs:List (List (List UInt8) × List (List UInt8)))(M:List (List UInt8)):Pass fs M M false 0:=⟨λ_=>⟨rfl,λ_ _ h=>absurd h (Nat.not_lt_zero _)⟩,λh=>by cases h⟩
theorem Pass.put {fs:List (List (List UInt8) × List (List UInt8))}{M0 M:List (List UInt8)}{m:Bool}{i:Nat}(h:Pass fs M0 M m i){x:List UInt8}(hu:x∈outs fs)(hm:x∉M):Pass fs M0 (put M x) true i:=by
 refine⟨(λh=>by cases h),λ_=>?_⟩
 have h1:=lack_put_lt M x hm (outs fs) hu
 cases m with
 | true=>have:=h.2 rfl; omega
 | false=>rw [<- (h.1 rfl).1]; exact h1
end Bk
end Go.Proofs.YtinebhdilnndaaaGreatDoor
namespace Go.Proofs.YtinebhdilnndaaaGreatDoor
open Go.ChangeShapes Go.WideShapes Go.ChangeAt Go.RowKit Go.Deep
section
variable {H:Type} {enc:TypeId × Value->H} {P:Program} {w:World} {base:Nat} {spare:Nat->Bool} {held:Bool}
theorem open_slice {t e:TypeId}(ht:P.underlying t = some (.slice e)){fuel:Nat}{cs:List Value}{x:DataW H × List MemPlace}(h:DataW.trod enc P w base spare held fuel t cs = some x):
  cs = [.slice none 0 0]\/∃ a len cap,cs = [.slice (some a) len cap]/\∃ n E R,x.1 = .slice E R/\∀ i,i < len->∃ es y,w.cells? base (a.add (i * P.cellsOf e)) (P.cellsOf e) = some es/\DataW.trod enc P w base spare held n e es = some y/\y.1∈E:=by
 rcases DataW.trod_slice ht h with ⟨h0,_⟩ | ⟨a,len,cap,elems,rest,n,_,rfl,rfl,_,_,_,hlen,hel,_,_⟩
 ·exact .inl h0
 ·refine .inr ⟨a,len,cap,rfl,n,_,_,rfl,λi hi=>?_⟩
  have h1:=hel i hi;rw [List.getElem?_eq_getElem (by omega)] at h1
  obtain⟨es,h2,h3⟩:=Option.bind_eq_some_iff.1 h1;exact⟨es,_,h2,h3,List.mem_map_of_mem (List.getElem_mem _)⟩
theorem spot_of {a:Addr}{m n:Nat}{es:List Value}(hn:0 < n)(h:w.cells? base (a.add (0 * m)) n = some es):a.spot = none:=by
 obtain⟨_,hl,hc⟩:=World.cells?_some h;have h0:=hc 0 hn;rw [List.getElem?_eq_getElem (by omega),Nat.zero_mul] at h0
 simpa [Addr.add] using World.cell?_spot h0
theorem cells_spot {a:Addr}{k n:Nat}{es:List Value}(hs:a.spot = none)(hn:0 < n)(h:w.cells? base (a.add k) n = some es):a.block < w.heap.size/\es.length = n/\∀ j v,es[j]? = some v->w.cell? ⟨a.block,a.off + k + j,none⟩ = some v:=by
 obtain⟨_,hl,hc⟩:=World.cells?_some h;have h0:=hc 0 hn;rw [List.getElem?_eq_getElem (by omega)] at h0
 obtain⟨g,o,s⟩:=a;simp only at hs;subst hs;rw [Addr.add_lit,Addr.add_lit] at h0;have hg:g < w.heap.size:=World.block_lt_of_cell? w ⟨g,o + k + 0,none⟩ h0;refine⟨hg,hl,λj v hj=>?_⟩
 have hj':j < n:=by
  have:=(List.getElem?_eq_some_iff.1 hj).1
  omega
 have h1:=hc j hj';rw [Addr.add_lit,Addr.add_lit] at h1;rw [<- hj,<- h1]
end
def FsW (w:World)(v:Value)(L:List (List (List UInt8) × List (List UInt8))):Prop:=
 ∃ ad g o c,v = .slice ad L.length c/\∀ i (hi:i < L.length),ad = some ⟨g,o,none⟩/\g < w.heap.size/\∃ a b,w.cell? ⟨g,o + i * 2,none⟩ = some a/\w.cell? ⟨g,o + i * 2 + 1,none⟩ = some b/\Hs w a L[i].1/\Hs w b L[i].2/\Whole a/\Whole b
theorem FsW.fs {w:World}{v:Value}{L:List (List (List UInt8) × List (List UInt8))}(h:FsW w v L):Fs w v L:=by
 obtain⟨ad,g,o,c,rfl,h1⟩:=h;refine⟨ad,g,o,c,rfl,λi hi=>?_⟩
 obtain⟨e,hg,a,b,h2,h3,h4,h5,_⟩:=h1 i hi;exact⟨e,hg,a,b,h2,h3,h4,h5⟩
theorem FsW.kept {w w':World}{v:Value}{L:List (List (List UInt8) × List (List UInt8))}(h:FsW w v L)(k:Kept w.heap.size w.heap.size w w'):FsW w' v L:=by
 obtain⟨ad,g,o,c,rfl,h1⟩:=h;refine⟨ad,g,o,c,rfl,λi hi=>?_⟩
 obtain⟨e,hg,a,b,h2,h3,h4,h5,h6⟩:=h1 i hi;exact⟨e,Nat.lt_of_lt_of_le hg k.size,a,b,(k.cell (p:=⟨g,o + i * 2,none⟩) hg (Nat.ne_of_lt hg)).trans h2,(k.cell (p:=⟨g,o + i * 2 + 1,none⟩) hg (Nat.ne_of_lt hg)).trans h3,h4.kept k,h5.kept k,h6⟩
end Go.Proofs.YtinebhdilnndaaaGreatDoor
