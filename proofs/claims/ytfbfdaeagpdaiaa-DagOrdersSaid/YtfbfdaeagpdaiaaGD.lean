/-
 BookMath; BookRow; BookOwn; BookMap; BookKnown: several texts in one.
-/
import Derived.Test.YtfbfdaeagpdaiaaGB
import Derived.Test.YtfbfdaeagpdaiaaProg
import Derived.Test.YtfbfdaeagpdaiaaGA
import Derived.Stop.BytesEq
import Derived.Lib.Hide
import Derived.Deep.MidRow
import Derived.Deep.Cut
import Derived.Laws.AppendOwn
import Derived.Laws.OwnMore
import Derived.Maps.RangeWalk
import Derived.WideKeyEntry
import Derived.DeepKeys4
import Derived.Lib.LaidTab
namespace Go.Proofs.Ytfbfdaeagpdaiaa
open Go.RowKit Go.Lib
open List renaming setIfInBounds_toArray → sA, set_cons_zero → sB, set_cons_succ → sC
open BigFrame renaming wpList_want → wQ
namespace Bk
def less (a b:List UInt8):Bool:=decide (compareBytes a b < 0)
def ahead (L:List (List UInt8))(h:List UInt8):List (List UInt8):=L.takeWhile fun x=>less x h
def rest (L:List (List UInt8))(h:List UInt8):List (List UInt8):=L.dropWhile fun x=>less x h
def put (L:List (List UInt8))(h:List UInt8):List (List UInt8):=ahead L h ++ [h] ++ (rest L h).filter fun x=>!(x == h)
theorem less_irrefl (a:List UInt8):less a a = false:=by
 have:=(cb_zero a a).2 rfl;simp [less,this]
theorem less_anti {a b:List UInt8}(h:less a b = true):less b a = false:=by
 have h1:=cb_anti a b;simp only [less,decide_eq_true_eq,decide_eq_false_iff_not] at h ⊢
 omega
theorem less_trans {a b c:List UInt8}(h:less a b = true)(k:less b c = true):less a c = true:=by
 simp only [less,decide_eq_true_eq] at h k ⊢;have h1:=cb_trans a b c (by omega) (by omega)
 have h2:=cb_zero a c
 rcases Int.lt_or_eq_of_le h1 with h3 | h3
 ·exact h3
 ·have:=h2.1 h3
  subst this;have h4:=cb_anti a b
  omega
theorem less_total {a b:List UInt8}(h:less a b = false)(hne:a≠b):less b a = true:=by
 have h1:=cb_anti a b;have h2:=cb_zero a b;simp only [less,decide_eq_true_eq,decide_eq_false_iff_not] at h ⊢
 rcases Int.lt_trichotomy (compareBytes a b) 0 with h3 | h3 | h3
 ·omega
 ·exact absurd (h2.1 h3) hne
 ·omega
def Rising (L:List (List UInt8)):Prop:=L.Pairwise fun a b=>less a b = true
theorem Rising.nil:Rising []:=List.Pairwise.nil
theorem rising_ext:∀ (L M:List (List UInt8)),Rising L→Rising M→(∀ x,x∈L↔x∈M)→L = M
 | [],[],_,_,_=>rfl
 | [],y :: M,_,_,h=>absurd ((h y).2 (by simp)) (by simp)
 | x :: L,[],_,_,h=>absurd ((h x).1 (by simp)) (by simp)
 | x :: L,y :: M,hl,hm,h=>by
  obtain⟨l1,l2⟩:=List.pairwise_cons.1 hl;obtain⟨m1,m2⟩:=List.pairwise_cons.1 hm
  have hxy:x = y:=by
   rcases List.mem_cons.1 ((h x).1 (by simp)) with h1 | h1
   ·exact h1
   ·rcases List.mem_cons.1 ((h y).2 (by simp)) with h2 | h2
    ·exact h2.symm
    ·have a:=m1 x h1
     have b:=l1 y h2;rw [less_anti a] at b
     cases b
  subst hxy
  congr 1
  refine rising_ext L M l2 m2 fun z=>?_
  constructor
  ·intro hz
   rcases List.mem_cons.1 ((h z).1 (by simp [hz])) with h1 | h1
   ·subst h1
    have:=l1 z hz;rw [less_irrefl] at this
    cases this
   ·exact h1
  ·intro hz
   rcases List.mem_cons.1 ((h z).2 (by simp [hz])) with h1 | h1
   ·subst h1
    have:=m1 z hz;rw [less_irrefl] at this
    cases this
   ·exact h1
inductive Cl (fs:List (List (List UInt8) × List (List UInt8))) (fr:List (List UInt8)):List UInt8→Prop
 | base (x:List UInt8):x∈fr→Cl fs fr x
 | fact (f:List (List UInt8) × List (List UInt8)) (o:List UInt8):f∈fs→(∀ x∈f.1,Cl fs fr x)→o∈f.2→Cl fs fr o
def Shut (fs:List (List (List UInt8) × List (List UInt8)))(L:List (List UInt8)):Prop:=∀ f∈fs,(∀ x∈f.1,x∈L)→∀ o∈f.2,o∈L
structure Is (fs:List (List (List UInt8) × List (List UInt8))) (fr L:List (List UInt8)):Prop where
 rising:Rising L
 mem:∀ x,x∈L↔Cl fs fr x
theorem Is.one {fs:List (List (List UInt8) × List (List UInt8))}{fr L M:List (List UInt8)}(h:Is fs fr L)(k:Is fs fr M):L = M:=
 rising_ext L M h.rising k.rising fun x=>(h.mem x).trans (k.mem x).symm
end Bk
def Hs (w:World)(v:Value)(L:List (List UInt8)):Prop:=
 (∀ x∈L,x.length = 32)∧∃ ad g o c,v = .slice ad L.length c∧∀ i (hi:i < L.length),ad = some ⟨g,o,none⟩∧g < w.heap.size∧w.rangeAt g (o + i * 32) (bcells L[i])
theorem rangeAt_kept {base b:Nat}{w w':World}(k:Kept base b w w'){g o:Nat}{cs:List Value}(h:w.rangeAt g o cs)(hg:g < base)(hb:g≠b):w'.rangeAt g o cs:=fun j v hv=>(k.cell (p:=⟨g,o + j,none⟩) hg hb).trans (h j v hv)
theorem Hs.kept {w w':World}{v:Value}{L:List (List UInt8)}(h:Hs w v L)(k:Kept w.heap.size w.heap.size w w'):Hs w' v L:=by
 obtain⟨h0,ad,g,o,c,rfl,h1⟩:=h;refine⟨h0,ad,g,o,c,rfl,fun i hi=>?_⟩
 obtain⟨a,b,d⟩:=h1 i hi;exact⟨a,Nat.lt_of_lt_of_le b k.size,rangeAt_kept k d b (Nat.ne_of_lt b)⟩
theorem Hs.nil (w:World):Hs w (.slice none 0 0) []:=⟨(fun _ h=>nomatch h),none,0,0,0,rfl,fun _ h=>absurd h (Nat.not_lt_zero _)⟩
def Own (w:World)(base:Nat)(v:Value)(M:List (List UInt8)):Prop:=(∀ x∈M,x.length = 32)∧w.ownsRow base 29 32 v M.length (bcells M.flatten)
theorem Own.nil (w:World)(base:Nat):Own w base (.slice none 0 0) []:=⟨(fun _ h=>nomatch h),World.ownsRow_nil w base 29 32⟩
theorem flatten_at:∀ (M:List (List UInt8)),(∀ x∈M,x.length = 32)→∀ i (hi:i < M.length) j,j < 32→M.flatten[i * 32 + j]? = M[i][j]?
 | [],_,i,hi,_,_=>absurd hi (Nat.not_lt_zero _)
 | x :: M,h,0,_,j,hj=>by
  have hx:=h x (by simp)
  rw [List.flatten_cons,Nat.zero_mul,Nat.zero_add,List.getElem?_append_left (by omega)]
  rfl
 | x :: M,h,i + 1,hi,j,hj=>by
  have hx:=h x (by simp)
  rw [List.flatten_cons,List.getElem?_append_right (by omega),show(i + 1) * 32 + j - x.length = i * 32 + j by omega]
  exact flatten_at M (fun y hy=>h y (by simp [hy])) i (by simpa using hi) j hj
theorem Own.hs {w:World}{base:Nat}{v:Value}{M:List (List UInt8)}(h:Own w base v M):Hs w v M:=by
 obtain⟨h32,ho⟩:=h;refine⟨h32,?_⟩;have hlt:=ho.lt;have h0:=ho
 rcases ho.2 with ⟨rfl,hn⟩ | ⟨g,cap,cur,rfl,hb,_⟩
 ·obtain rfl:=List.length_eq_zero_iff.1 hn
  exact⟨none,0,0,0,rfl,fun _ h=>absurd h (Nat.not_lt_zero _)⟩
 ·refine⟨some ⟨g,0,none⟩,g,0,cap,rfl,fun i hi=>⟨rfl,(hlt g rfl).2,fun j u hu=>?_⟩⟩
  have hx:=h32 M[i] (List.getElem_mem hi)
  have hj:j < 32:=by
   rcases Nat.lt_or_ge j 32 with h1 | h1
   ·exact h1
   ·rw [List.getElem?_eq_none (by rw [bcells_length,hx]; exact h1)] at hu; cases hu
  have h2:=h0.cells (g:=g) rfl (i * 32 + j) u (by
   rw [bcells,List.getElem?_map] at hu ⊢;rw [flatten_at M h32 i hi j hj]
   exact hu)
  rw [Addr.add_lit,Nat.zero_add] at h2;rw [Nat.zero_add];exact h2
theorem Own.alloc {w:World}{base:Nat}{v:Value}{M:List (List UInt8)}(h:Own w base v M)(o:Obj):Own (w.alloc o) base v M:=⟨h.1,h.2.alloc o⟩
theorem Own.kept {w w':World}{base b:Nat}{v:Value}{M:List (List UInt8)}(h:Own w base v M)(k:Kept w.heap.size b w w')(hb:w.heap.size≤b):Own w' base v M:=
 ⟨h.1,h.2.kept (row:=none) ⟨k.os,k.tape,k.output,k.size,fun i hi _=>k.block i hi (by omega)⟩ (by cases hv:v.ownBlock <;> simp)⟩
end Go.Proofs.Ytfbfdaeagpdaiaa
namespace Go.Proofs.Ytfbfdaeagpdaiaa
open Go.RowKit Go.Lib Go.WideElems
open Go.Maps (Keyed)
def anyR (v:Value):Option (DataW Value × List MemPlace):=some (.held v,[])
def Mp (w:World)(k:TypeId)(b n:Nat)(f:Lit→Option Value):Prop:=
 ∃ D,w.ownsMap Try.prog k anyR b n D∧∀ l,(f l = none→Maps.has D l = false)∧∀ v,f l = some v→Maps.has D l = true∧∀ z,D.atKey l z = .held v
noncomputable def upd (f:Lit→Option Value) (kl:Lit) (v:Value):Lit→Option Value:=fun l=>@ite _ (l = kl) (Classical.propDecidable _) (some v) (f l)
theorem upd_same (f:Lit→Option Value)(kl:Lit)(v:Value):upd f kl v kl = some v:=by unfold upd; rw [if_pos rfl]
theorem upd_other (f:Lit→Option Value){l kl:Lit}(v:Value)(h:l≠kl):upd f kl v l = f l:=by unfold upd; rw [if_neg h]
section
variable {w:World} {k:TypeId} {b n:Nat} {f:Lit→Option Value}
theorem Mp.made (w:World)(k:TypeId):Mp (w.alloc (.map #[] 0)) k w.heap.size 0 fun _=>none:=
 ⟨.map [],World.ownsMap_made w _ k anyR,fun l=>⟨fun _=>rfl,fun v h=>by cases h⟩⟩
theorem Mp.mono (h:Mp w k b n f){n':Nat}(hn:n≤n'):Mp w k b n' f:=by
 obtain⟨D,h1,h2⟩:=h;exact⟨D,h1.mono hn,h2⟩
theorem Mp.lt (h:Mp w k b n f):b < w.heap.size:=by
 obtain⟨D,h1,_⟩:=h;exact h1.lt
theorem Mp.same (h:Mp w k b n f){w':World}(hb:w'.heap[b]? = w.heap[b]?):Mp w' k b n f:=by
 obtain⟨D,⟨es,clock,h0,h1⟩,h2⟩:=h;exact⟨D,⟨es,clock,hb.trans h0,h1⟩,h2⟩
theorem Mp.ne (h:Mp w k b n f){g:Nat}{cs:Array Value}{t:TypeId}{fr:Nat × Nat}(hg:w.heap[g]? = some (.cells cs t fr)):g≠b:=by
 obtain⟨D,⟨es,clock,h0,_⟩,_⟩:=h;rintro rfl;rw [h0] at hg
 cases hg
theorem Mp.look (h:Mp w k b n f)(K:Keyed Try.prog k){t e:TypeId}(ht:Try.prog.underlying t = some (.map k e)){z:Value}(hz:(zeroValue e).run Try.prog w = .ok z w){key:Value}{kl:Lit}(hkey:keyOf Try.prog k key = some kl):
  (Instr.lookup t (.map (some b)) key false).run Try.prog w = .ok ((f kl).getD z) w:=by
 obtain⟨D,h1,h2⟩:=h;obtain⟨v,ps,hrun,hv⟩:=h1.lookup K ht hz (show anyR z = some (.held z,[]) from rfl) hkey;simp only [anyR,Option.some.injEq,Prod.mk.injEq] at hv;obtain⟨h3,h4⟩:=h2 kl
 cases hf:f kl with
 | none=>
  rw [Maps.atKey_of_not_has (h3 hf)] at hv;rw [hrun,DataW.held.inj hv.1]
  rfl
 | some u=>
  rw [(h4 u hf).2] at hv;rw [hrun,DataW.held.inj hv.1]
  rfl
theorem Mp.look_ok (h:Mp w k b n f)(K:Keyed Try.prog k){t e:TypeId}(ht:Try.prog.underlying t = some (.map k e)){z:Value}(hz:(zeroValue e).run Try.prog w = .ok z w){key:Value}{kl:Lit}(hkey:keyOf Try.prog k key = some kl):
  (Instr.lookup t (.map (some b)) key true).run Try.prog w = .ok (.tuple #[(f kl).getD z,.bool (f kl).isSome]) w:=by
 obtain⟨D,h1,h2⟩:=h;obtain⟨v,ps,hrun,hv⟩:=h1.look_ok K ht hz (show anyR z = some (.held z,[]) from rfl) hkey;simp only [anyR,Option.some.injEq,Prod.mk.injEq] at hv;obtain⟨h3,h4⟩:=h2 kl
 cases hf:f kl with
 | none=>
  rw [Maps.atKey_of_not_has (h3 hf)] at hv;rw [hrun,DataW.held.inj hv.1,h3 hf]
  rfl
 | some u=>
  rw [(h4 u hf).2] at hv;rw [hrun,DataW.held.inj hv.1,(h4 u hf).1]
  rfl
theorem Mp.put {w':World}{kl:Lit}{val:Value}(h:∃ D,w.ownsMap Try.prog k anyR b n D∧(∀ l,(f l = none→Maps.has D l = false)∧∀ v,f l = some v→Maps.has D l = true∧∀ z,D.atKey l z = .held v)∧w'.ownsMap Try.prog k anyR b (n + 1) (D.put kl (.held val)))(K:Keyed Try.prog k){key:Value}(hkey:keyOf Try.prog k key = some kl):
  Mp w' k b (n + 1) (upd f kl val):=by
 obtain⟨D,h1,h2,h3⟩:=h;refine⟨_,h3,fun l=>⟨fun hn=>?_,fun v hv=>?_⟩⟩
 ·by_cases hl:l = kl
  ·rw [hl,upd_same] at hn
   cases hn
  ·rw [upd_other _ _ hl] at hn
   rw [Maps.has_put_other hl];exact(h2 l).1 hn
 ·by_cases hl:l = kl
  ·rw [hl,upd_same] at hv
   obtain rfl:=Option.some.inj hv;subst hl;exact⟨Maps.has_put_same h1.isMap (K.key hkey) _,fun z=>Maps.atKey_put_same h1.isMap (K.key hkey) _ z⟩
  ·rw [upd_other _ _ hl] at hv
   obtain⟨h4,h5⟩:=(h2 l).2 v hv;exact⟨by rw [Maps.has_put_other hl]; exact h4,fun z=>by rw [Maps.atKey_put_other hl]; exact h5 z⟩
theorem Mp.store (h:Mp w k b n f)(K:Keyed Try.prog k){t e:TypeId}(ht:Try.prog.underlying t = some (.map k e))(hn:n < maxLen){key:Value}{kl:Lit}(hkey:keyOf Try.prog k key = some kl)(val:Value):
  ∃ w',(Instr.mapUpdate t (.map (some b)) key val).run Try.prog w = .ok () w'∧Mp w' k b (n + 1) (upd f kl val)∧w.grownBy w' (some b)∧w'.heap.size = w.heap.size:=by
 obtain⟨D,h1,h2⟩:=h;obtain⟨w',hrun,hown,ht⟩:=h1.store K ht hn hkey (show anyR val = some (.held val,[]) from rfl);refine⟨w',hrun,Mp.put ⟨D,h1,h2,hown⟩ K hkey,ht.grown,?_⟩;obtain⟨es,clock,es',clock',_,rfl⟩:=ht;simp [ChangeMaps.setBlock]
theorem Mp.len (h:Mp w k b n f){t e:TypeId}(ht:Try.prog.underlying t = some (.map k e)):∃ c,c≤n∧∀ ty,(Builtin.len_ #[t] ty #[.map (some b)]).run Try.prog w = .ok (.int .i64 (c:Nat)) w:=by
 obtain⟨D,h1,h2⟩:=h;exact⟨_,h1.size_le,fun ty=>h1.len ht ty⟩
end
theorem bookLaid:laidOutB Try.prog = true:=by kernel_rfl
theorem bookSize:Try.prog.types.size = Try.prog.types.size - 1 + 1:=by kernel_rfl
theorem bookCells39:Try.prog.cellsOf 30 = 32:=by kernel_rfl
theorem bookCells8:Try.prog.cellsOf 5 = 1:=by kernel_rfl
theorem hash_law:WideMaps.KeyLaw Try.prog 30:=deep_law_laid bookLaid (m:=2) (by omega) (of_decide_eq_true (by kernel_rfl)) (by kernel_rfl) (by rw [Try.underlying30])
theorem hash_keyed:Keyed Try.prog 30:=Keyed.of_law hash_law
theorem int_keyed3:Keyed Try.prog 3:=Maps.int_keyed Try.underlying3
theorem mapM_is {α β:Type}(g:α→Option β)(h:α→β):∀ l:List α,(∀ x∈l,g x = some (h x))→l.mapM g = some (l.map h)
 | [],_=>rfl
 | x :: l,hx=>by
  rw [List.mapM_cons,hx x (by simp),mapM_is g h l (fun y hy=>hx y (by simp [hy]))]
  rfl
theorem keyBytes_bytes:∀ (l:List UInt8),keyBytes ((l.map fun c=>[Lit.int .u8 (c.toNat:Int)]).flatten) = l
 | []=>rfl
 | c :: l=>by
  have ih:=keyBytes_bytes l
  have hc:Lit.keyBytes (.int .u8 (c.toNat:Int)) = [c]:=by
   have h1:=c.toNat_lt
   have h2:((c.toNat:Int) % 2 ^ IntKind.bits .u8).toNat = c.toNat:=by
    show((c.toNat:Int) % 256).toNat = c.toNat
    omega
   simp only [Lit.keyBytes,h2];show bytesBE 1 c.toNat = [c]
   simp [bytesBE,bytesLE]
  unfold keyBytes at ih ⊢;rw [List.map_cons,List.flatten_cons,List.flatMap_append,ih];simp [hc]
theorem keyOf_hash (l:List UInt8)(hl:l.length = 32):keyOf Try.prog 30 (.agg (bcells l).toArray) = some (.string l):=by
 have hf:(Value.agg (bcells l).toArray).formed Try.prog 30 = true:=by
  simp [Value.formed,Try.underlying30,bookCells39,bcells_length,hl]
 have hk:Try.prog.keyType 30 = true:=by kernel_rfl
 unfold keyOf;simp only [Try.underlying30,hf,hk,Bool.and_self,if_true]
 have hm:(List.range 32).mapM (fun i=>Try.prog.keyLits Try.prog.types.size 5 (((bcells l).drop (i * Try.prog.cellsOf 5)).take (Try.prog.cellsOf 5))) = some ((List.range 32).map fun i=>[Lit.int .u8 ((l.getD i 0).toNat:Int)]):=by
  refine mapM_is _ _ _ fun i hi=>?_
  have hi2:i < l.length:=by rw [hl]; exact List.mem_range.1 hi
  rw [bookCells8,Nat.mul_one,List.drop_eq_getElem_cons (by rw [bcells_length]; exact hi2),List.take_succ_cons,List.take_zero,bookSize]
  have hg:(bcells l)[i]'(by rw [bcells_length]; exact hi2) = .int .u8 (l[i].toNat:Int):=by simp [bcells]
  have hwf:(Lit.int .u8 (l[i].toNat:Int)).wf = true:=by
   have h1:=(l[i]).toNat_lt;exact WalkArith.wf_u8 (by omega)
  rw [hg];simp [Program.keyLits,Try.underlying5,hwf,List.getD_eq_getElem?_getD,hi2]
 have hr:(List.range 32).map (fun i=>[Lit.int .u8 ((l.getD i 0).toNat:Int)]) = l.map fun c=>[Lit.int .u8 (c.toNat:Int)]:=by
  apply List.ext_getElem
  ·simp [hl]
  ·intro i h1 h2
   have hi2:i < l.length:=by simpa using h2
   simp [List.getD_eq_getElem?_getD,hi2]
 rw [hr] at hm;have hcl:(Value.agg (bcells l).toArray).cells.toList = bcells l:=by simp [Value.cells]
 rw [hcl];simp only [Program.keyLits,Try.underlying30,bookCells39,bcells_length,hl,if_true,hm,Option.map_some,keyBytes_bytes]
def byteOf:Option Value→UInt8
 | some (.int _ m)=>UInt8.ofNat m.toNat
 | _=>0
theorem hash_of_key {v:Value}{kl:Lit}(h:keyOf Try.prog 30 v = some kl):∃ l:List UInt8,l.length = 32∧v = .agg (bcells l).toArray∧kl = .string l:=by
 have h0:=h;unfold keyOf at h;simp only [Try.underlying30] at h
 split at h
 ·rename_i hc
  obtain⟨ls,hls,rfl⟩:=Option.map_eq_some_iff.1 h;have hfm:=(Bool.and_eq_true_iff.1 hc).2
  cases v <;> simp [Value.formed,Try.underlying30,bookCells39] at hfm
  rename_i cs
  simp only [Program.keyLits,Try.underlying30,bookCells39,Value.cells] at hls
  rw [if_pos (by simpa using hfm)] at hls
  obtain⟨lss,hmm,_⟩:=Option.map_eq_some_iff.1 hls
  have hel:∀ i,i < 32→∃ c:UInt8,cs.toList[i]? = some (.int .u8 (c.toNat:Int)):=by
   intro i hi;obtain⟨x,_,hx⟩:=Lib.mapM_at hmm i i (by simp [hi])
   have hi2:i < cs.toList.length:=by simp [hfm,hi]
   rw [bookCells8,Nat.mul_one,List.drop_eq_getElem_cons hi2,List.take_succ_cons,List.take_zero] at hx;obtain⟨m,hm,_⟩:=keyLits_int' Try.underlying5 hx
   have hm2:cs.toList[i] = .int .u8 m:=by simpa using hm
   rw [hm2,bookSize] at hx;simp only [Program.keyLits,Try.underlying5] at hx
   split at hx
   ·rename_i hw
    have hw2:=hw.2;simp [Lit.wf,IntKind.min,IntKind.max,IntKind.signed,IntKind.bits] at hw2;refine⟨UInt8.ofNat m.toNat,?_⟩
    have hm3:(((UInt8.ofNat m.toNat).toNat:Nat):Int) = m:=by
     rw [UInt8.toNat_ofNat']
     omega
    rw [List.getElem?_eq_getElem hi2,hm2,hm3]
   ·cases hx
  have hcs:cs.toList = bcells ((List.range 32).map fun i=>byteOf cs.toList[i]?):=by
   apply List.ext_getElem?;intro i
   by_cases hi:i < 32
   ·obtain⟨c,hc⟩:=hel i hi
    rw [bcells_get _ i (by simpa using hi),List.getElem_map,List.getElem_range,hc]
    show some (Value.int .u8 (c.toNat:Int)) = some (Value.int .u8 ((UInt8.ofNat (c.toNat:Int).toNat).toNat:Int));rw [Int.toNat_natCast,UInt8.ofNat_toNat]
   ·rw [List.getElem?_eq_none (by simp [hfm]; omega),List.getElem?_eq_none (by simp [bcells]; omega)]
  generalize hL:(List.range 32).map (fun i=>byteOf cs.toList[i]?) = L at hcs
  have hL32:L.length = 32:=by rw [← hL]; simp
  have hcs2:cs = (bcells L).toArray:=by rw [← hcs]
  subst hcs2;refine⟨L,hL32,rfl,?_⟩;rw [keyOf_hash L hL32] at h0;exact(Option.some.inj h0).symm
 ·cases h
end Go.Proofs.Ytfbfdaeagpdaiaa
namespace Go.Proofs.Ytfbfdaeagpdaiaa
open Go
section
variable {P:Program} {o:Oper} {a:Act} {w w':World} {K:Act→World→Prop} {Q:Exit→Act→World→Prop}
theorem wp_update_run (m x y:Operand)(t:TypeId)(ho:o.op = .mapUpdate t m x y)(v s u:Value)(hs:a.eval m = v)(hx:a.eval x = s)(hy:a.eval y = u)(hr:(Instr.mapUpdate t v s u).run P w = .ok () w')(hk:K (a.put o.dst undef) w'):o.wp P a w K Q:=by
 unfold Oper.wp execOp;simp only [ho,Sem.run_bind,Sem.run_pure,Result.andThen_ok,hs,hx,hy,hr];exact hk
end
end Go.Proofs.Ytfbfdaeagpdaiaa
