/-
 BookRow; BookOwn; BookMap; BookHash; BookHas; BookPutter; BookMath; BookPut; BookFacts; BookInv; BookKnown; BookNote; BuildTwo; BookOpen; BookPlain; BookFew; BookFollows: several texts in one.
-/
import Derived.Test.YtanfnafiofkihaaProg
import Derived.Test.YtanfnafiofkihaaGA
import Derived.Stop.BytesEq
import Derived.Lib.Hide
import Derived.Deep.MidRow
import Derived.Deep.Cut
import Derived.Laws.AppendOwn
import Derived.Laws.OwnMore
import Derived.Maps.RangeWalk
import Derived.WideKeyEntry
import Derived.DeepKeys4
import Derived.Lib.LaidTab
import Derived.Maps.AppendAt
import Derived.Test.YtanfnafiofkihaaGB
import Derived.Deep.CutBlock
import Derived.Deep.DeepCutAuto
import Derived.BigQuiet
import Derived.Test.YtanfnafiofkihaaRows
import Derived.ProofKit
import Derived.OpenShut
import Derived.Deep.LoopGhost
set_option maxRecDepth 100000
set_option maxHeartbeats 6400000
namespace Go.Proofs.Ytanfnafiofkihaa
open Go.RowKit Go.Lib
open List renaming setIfInBounds_toArray -> sA, set_cons_zero -> sB, set_cons_succ -> sC
open BigFrame renaming wpList_want -> wQ
def Hs (w:World)(v:Value)(L:List (List UInt8)):Prop:=
 (∀ x∈L,x.length = 32)/\∃ ad g o c,v = .slice ad L.length c/\∀ i (hi:i < L.length),ad = some ⟨g,o,none⟩/\g < w.heap.size/\w.rangeAt g (o + i * 32) (bcells L[i])
theorem rangeAt_kept {base b:Nat}{w w':World}(k:Kept base b w w'){g o:Nat}{cs:List Value}(h:w.rangeAt g o cs)(hg:g < base)(hb:g≠b):w'.rangeAt g o cs:=λj v hv=>(k.cell (p:=⟨g,o + j,none⟩) hg hb).trans (h j v hv)
theorem Hs.kept {w w':World}{v:Value}{L:List (List UInt8)}(h:Hs w v L)(k:Kept w.heap.size w.heap.size w w'):Hs w' v L:=by
 obtain⟨h0,ad,g,o,c,rfl,h1⟩:=h;refine⟨h0,ad,g,o,c,rfl,λi hi=>?_⟩
 obtain⟨a,b,d⟩:=h1 i hi;exact⟨a,Nat.lt_of_lt_of_le b k.size,rangeAt_kept k d b (Nat.ne_of_lt b)⟩
theorem Hs.nil (w:World):Hs w (.slice none 0 0) []:=⟨(λ_ h=>nomatch h),none,0,0,0,rfl,λ_ h=>absurd h (Nat.not_lt_zero _)⟩
theorem wpQuiet_load_at {P:Program}{ops:Array Oper}{C:World->Prop}{Q:Act->Prop}{a:Act}{o:Oper}{rest:List Oper}(ty:TypeId)(x:Operand)(ho:o.op = .load ty x)(b off:Nat)(hx:a.eval x = .pointer (some ⟨b,off,none⟩))(cs:List Value)(d:TypeDesc)
  (hc:∀ w,C w->w.rangeAt b off cs) (hu:P.underlying ty = some d) (hd:d.isRow = true) (hi:(P.info? ty).map (·.size) = some cs.length) (hw:Region.wanted o (yielded ops a.tmps) = true)
  (h:wpQuiet P ops C Q rest (a.put o.dst (.agg cs.toArray))):wpQuiet P ops C Q (o :: rest) a:=
 wpQuiet_step λK hK=>by
  rw [if_pos hw];refine⟨.agg cs.toArray,λw hw'=>?_,hK _ h⟩
  unfold Oper.quietAt execOp;simp only [ho,hx,Instr.loadAt,Instr.sureAddr,Sem.run_bind,Sem.run_pure,Result.andThen_ok,run_loadVar_mid w b off ty cs d (hc w hw') hu hd hi];exact⟨rfl,rfl⟩
theorem wpList_load_at_g {P:Program}{ops:Array Oper}{rest:List Oper}{o:Oper}{a:Act}{w:World}{Q:Exit->Act->World->Prop}(hw:Region.wanted o (yielded ops a.tmps) = true)(ty:TypeId)(x:Operand)(ho:o.op = .load ty x)
  (g off:Nat) (hx:a.eval x = .pointer (some ⟨g,off,none⟩)) (cs:List Value) (d:TypeDesc) (hg:w.rangeAt g off cs) (hu:P.underlying ty = some d) (hd:d.isRow = true) (hi:(P.info? ty).map (·.size) = some cs.length)
  (h:wpList P ops Q rest (a.put o.dst (.agg cs.toArray)) w):wpList P ops Q (o :: rest) a w:=
 wpList_step λK hK=>by
  rw [if_pos hw];exact wp_load_mid ty x ho g off hx cs d hg hu hd hi (hK _ _ h)
theorem bookInfo38:(Try.prog.info? 25).map (·.size) = some 32:=by kernel_rfl
theorem bookGuard38:Try.prog.eqGuardType Try.prog.depth 25 = false:=by kernel_rfl
theorem book_equal38 (w:World)(xs ys:List UInt8)(hx:xs.length = 32)(hy:ys.length = 32):(Op.equalIn 10000 25 (.agg (bcells xs).toArray) (.agg (bcells ys).toArray)).run Try.prog w = .ok (xs == ys) w:=
 run_equalIn_bytes (P:=Try.prog) w 9998 25 5 32 Try.underlying25 Try.underlying5 (λw=>Try.sizeOf5 w) xs ys hx hy
theorem mid_regrown {w:World}{b off:Nat}{cs:List Value}(hb:b < w.heap.size)(h:w.rangeAt b off cs)(w':World)(hw:∃ p:Regrown,w' = Go.Sort.grow (redrawn w p.d) p.os):w'.rangeAt b off cs:=
 rangeAt_kept (regrown_kept hw) h hb (Nat.ne_of_lt hb)
theorem bookInfoAll:(Try.prog.info? 25).map (λi=>(i.zero.map (·.cells.size),i.size,i.bytes)) = some (some 32,32,32):=by kernel_rfl
theorem book_info:∃ i z,Try.prog.info? 25 = some i/\i.zero = some z/\z.cells.size = 32/\i.size = 32/\i.bytes = 32:=by
 have h:=bookInfoAll
 cases hq:Try.prog.info? 25 with
 | none=>rw [hq] at h; cases h
 | some i=>
  rw [hq] at h;simp only [Option.map_some,Option.some.injEq,Prod.mk.injEq] at h
  cases hz:i.zero with
  | none=>rw [hz] at h; cases h.1
  | some z=>
   rw [hz] at h;simp only [Option.map_some,Option.some.injEq] at h;exact⟨i,z,rfl,hz,h.1,h.2.1,h.2.2⟩
def Own (w:World)(base:Nat)(v:Value)(M:List (List UInt8)):Prop:=(∀ x∈M,x.length = 32)/\w.ownsRow base 25 32 v M.length (bcells M.flatten)
theorem Own.nil (w:World)(base:Nat):Own w base (.slice none 0 0) []:=⟨(λ_ h=>nomatch h),World.ownsRow_nil w base 25 32⟩
theorem flatten_at:∀ (M:List (List UInt8)),(∀ x∈M,x.length = 32)->∀ i (hi:i < M.length) j,j < 32->M.flatten[i * 32 + j]? = M[i][j]?
 | [],_,i,hi,_,_=>absurd hi (Nat.not_lt_zero _)
 | x :: M,h,0,_,j,hj=>by
  have hx:=h x (by simp)
  rw [List.flatten_cons,Nat.zero_mul,Nat.zero_add,List.getElem?_append_left (by omega)]
  rfl
 | x :: M,h,i + 1,hi,j,hj=>by
  have hx:=h x (by simp)
  rw [List.flatten_cons,List.getElem?_append_right (by omega),show(i + 1) * 32 + j - x.length = i * 32 + j by omega]
  exact flatten_at M (λy hy=>h y (by simp [hy])) i (by simpa using hi) j hj
theorem flatten_length:∀ (M:List (List UInt8)),(∀ x∈M,x.length = 32)->M.flatten.length = M.length * 32
 | [],_=>rfl
 | x :: M,h=>by
  rw [List.flatten_cons,List.length_append,flatten_length M (λy hy=>h y (by simp [hy])),h x (by simp),List.length_cons]
  omega
theorem Own.hs {w:World}{base:Nat}{v:Value}{M:List (List UInt8)}(h:Own w base v M):Hs w v M:=by
 obtain⟨h32,ho⟩:=h;refine⟨h32,?_⟩;have hlt:=ho.lt;have h0:=ho
 rcases ho.2 with ⟨rfl,hn⟩ | ⟨g,cap,cur,rfl,hb,_⟩
 ·obtain rfl:=List.length_eq_zero_iff.1 hn
  exact⟨none,0,0,0,rfl,λ_ h=>absurd h (Nat.not_lt_zero _)⟩
 ·refine⟨some ⟨g,0,none⟩,g,0,cap,rfl,λi hi=>⟨rfl,(hlt g rfl).2,λj u hu=>?_⟩⟩
  have hx:=h32 M[i] (List.getElem_mem hi)
  have hj:j < 32:=by
   rcases Nat.lt_or_ge j 32 with h1 | h1
   ·exact h1
   ·rw [List.getElem?_eq_none (by rw [bcells_length,hx]; exact h1)] at hu; cases hu
  have h2:=h0.cells (g:=g) rfl (i * 32 + j) u (by
   rw [bcells,List.getElem?_map] at hu |-;rw [flatten_at M h32 i hi j hj]
   exact hu)
  rw [Addr.add_lit,Nat.zero_add] at h2;rw [Nat.zero_add];exact h2
theorem Own.alloc {w:World}{base:Nat}{v:Value}{M:List (List UInt8)}(h:Own w base v M)(o:Obj):Own (w.alloc o) base v M:=⟨h.1,h.2.alloc o⟩
theorem Own.kept {w w':World}{base b:Nat}{v:Value}{M:List (List UInt8)}(h:Own w base v M)(k:Kept w.heap.size b w w')(hb:w.heap.size<=b):Own w' base v M:=
 ⟨h.1,h.2.kept (row:=none) ⟨k.os,k.tape,k.output,k.size,λi hi _=>k.block i hi (by omega)⟩ (by cases hv:v.ownBlock <;> simp)⟩
theorem Own.low {w:World}{base:Nat}{v:Value}{M:List (List UInt8)}(h:Own w base v M):∀ k,v.ownBlock = some k->base<=k/\k < w.heap.size:=h.2.lt
theorem append_digest (w:World)(base:Nat)(v:Value)(M:List (List UInt8))(hown:Own w base v M)(hbase:base<=w.heap.size)(b c:Nat)(x:List UInt8)(hx:x.length = 32)(hb:w.rangeAt b 0 (bcells x))(hl:M.length < 1073741824):
  ∃ v' w',(Builtin.append_ #[33,33] 33 #[v,.slice (some ⟨b,0,none⟩) 1 c]).run Try.prog w = .ok v' w'/\Own w' base v' (M ++ [x])/\w.grownBy w' v.ownBlock:=by
 obtain⟨i,z,hi,hz,hzs,hs,hby⟩:=book_info;obtain⟨h32,ho⟩:=hown
 obtain⟨v',w',h1,h2,h3,_⟩:=run_append_own (P:=Try.prog) w base 33 33 25 i z 32 32 Try.underlying33 hi hz hs hby hzs (by decide) v M.length (bcells M.flatten) ho ⟨b,0,none⟩ 1 c (bcells x)
  (by rw [bcells_length,hx]) (λj u hu=>by
   rw [Addr.add_lit]
   exact hb j u hu)
  (bcells_one x) (by unfold maxLen; omega) (by omega) hbase
 rw [<- bcells_append] at h2;refine⟨v',w',h1,⟨λy hy=>?_,?_⟩,h3⟩
 ·rcases List.mem_append.1 hy with h | h
  ·exact h32 y h
  ·rw [List.mem_singleton] at h
   rw [h,hx]
 ·rw [List.length_append,List.length_singleton,List.flatten_append]
  simpa using h2
end Go.Proofs.Ytanfnafiofkihaa
namespace Go.Proofs.Ytanfnafiofkihaa
open Go.RowKit Go.Lib Go.WideElems
open Go.Maps (Keyed)
def anyR (v:Value):Option (DataW Value × List MemPlace):=some (.held v,[])
def Mp (w:World)(k:TypeId)(b n:Nat)(f:Lit->Option Value):Prop:=
 ∃ D,w.ownsMap Try.prog k anyR b n D/\∀ l,(f l = none->Maps.has D l = false)/\∀ v,f l = some v->Maps.has D l = true/\∀ z,D.atKey l z = .held v
noncomputable def upd (f:Lit->Option Value) (kl:Lit) (v:Value):Lit->Option Value:=λl=>@ite _ (l = kl) (Classical.propDecidable _) (some v) (f l)
theorem upd_same (f:Lit->Option Value)(kl:Lit)(v:Value):upd f kl v kl = some v:=by unfold upd; rw [if_pos rfl]
theorem upd_other (f:Lit->Option Value){l kl:Lit}(v:Value)(h:l≠kl):upd f kl v l = f l:=by unfold upd; rw [if_neg h]
section
variable {w:World} {k:TypeId} {b n:Nat} {f:Lit->Option Value}
theorem Mp.made (w:World)(k:TypeId):Mp (w.alloc (.map #[] 0)) k w.heap.size 0 λ_=>none:=
 ⟨.map [],World.ownsMap_made w _ k anyR,λl=>⟨λ_=>rfl,λv h=>by cases h⟩⟩
theorem Mp.mono (h:Mp w k b n f){n':Nat}(hn:n<=n'):Mp w k b n' f:=by
 obtain⟨D,h1,h2⟩:=h;exact⟨D,h1.mono hn,h2⟩
theorem Mp.lt (h:Mp w k b n f):b < w.heap.size:=by
 obtain⟨D,h1,_⟩:=h;exact h1.lt
theorem Mp.same (h:Mp w k b n f){w':World}(hb:w'.heap[b]? = w.heap[b]?):Mp w' k b n f:=by
 obtain⟨D,⟨es,clock,h0,h1⟩,h2⟩:=h;exact⟨D,⟨es,clock,hb.trans h0,h1⟩,h2⟩
theorem Mp.ne (h:Mp w k b n f){g:Nat}{cs:Array Value}{t:TypeId}{fr:Nat × Nat}(hg:w.heap[g]? = some (.cells cs t fr)):g≠b:=by
 obtain⟨D,⟨es,clock,h0,_⟩,_⟩:=h;rintro rfl;rw [h0] at hg
 cases hg
theorem Mp.look (h:Mp w k b n f)(K:Keyed Try.prog k){t e:TypeId}(ht:Try.prog.underlying t = some (.map k e)){z:Value}(hz:(zeroValue e).run Try.prog w = .ok z w){key:Value}{kl:Lit}(hkey:keyOf Try.prog k key = some kl):
  (Instr.lookup t (.map (some b)) key false).run Try.prog w = .ok ((f kl).getD z) w:=by
 obtain⟨D,h1,h2⟩:=h;obtain⟨v,ps,hrun,hv⟩:=h1.lookup K ht hz (show anyR z = some (.held z,[]) from rfl) hkey;simp only [anyR,Option.some.injEq,Prod.mk.injEq] at hv;obtain⟨h3,h4⟩:=h2 kl
 cases hf:f kl with
 | none=>
  rw [Maps.atKey_of_not_has (h3 hf)] at hv;rw [hrun,DataW.held.inj hv.1]
  rfl
 | some u=>
  rw [(h4 u hf).2] at hv;rw [hrun,DataW.held.inj hv.1]
  rfl
theorem Mp.look_ok (h:Mp w k b n f)(K:Keyed Try.prog k){t e:TypeId}(ht:Try.prog.underlying t = some (.map k e)){z:Value}(hz:(zeroValue e).run Try.prog w = .ok z w){key:Value}{kl:Lit}(hkey:keyOf Try.prog k key = some kl):
  (Instr.lookup t (.map (some b)) key true).run Try.prog w = .ok (.tuple #[(f kl).getD z,.bool (f kl).isSome]) w:=by
 obtain⟨D,h1,h2⟩:=h;obtain⟨v,ps,hrun,hv⟩:=h1.look_ok K ht hz (show anyR z = some (.held z,[]) from rfl) hkey;simp only [anyR,Option.some.injEq,Prod.mk.injEq] at hv;obtain⟨h3,h4⟩:=h2 kl
 cases hf:f kl with
 | none=>
  rw [Maps.atKey_of_not_has (h3 hf)] at hv;rw [hrun,DataW.held.inj hv.1,h3 hf]
  rfl
 | some u=>
  rw [(h4 u hf).2] at hv;rw [hrun,DataW.held.inj hv.1,(h4 u hf).1]
  rfl
theorem Mp.put {w':World}{kl:Lit}{val:Value}(h:∃ D,w.ownsMap Try.prog k anyR b n D/\(∀ l,(f l = none->Maps.has D l = false)/\∀ v,f l = some v->Maps.has D l = true/\∀ z,D.atKey l z = .held v)/\w'.ownsMap Try.prog k anyR b (n + 1) (D.put kl (.held val)))(K:Keyed Try.prog k){key:Value}(hkey:keyOf Try.prog k key = some kl):
  Mp w' k b (n + 1) (upd f kl val):=by
 obtain⟨D,h1,h2,h3⟩:=h;refine⟨_,h3,λl=>⟨λhn=>?_,λv hv=>?_⟩⟩
 ·by_cases hl:l = kl
  ·rw [hl,upd_same] at hn
   cases hn
  ·rw [upd_other _ _ hl] at hn
   rw [Maps.has_put_other hl];exact(h2 l).1 hn
 ·by_cases hl:l = kl
  ·rw [hl,upd_same] at hv
   obtain rfl:=Option.some.inj hv;subst hl;exact⟨Maps.has_put_same h1.isMap (K.key hkey) _,λz=>Maps.atKey_put_same h1.isMap (K.key hkey) _ z⟩
  ·rw [upd_other _ _ hl] at hv
   obtain⟨h4,h5⟩:=(h2 l).2 v hv;exact⟨by rw [Maps.has_put_other hl]; exact h4,λz=>by rw [Maps.atKey_put_other hl]; exact h5 z⟩
theorem Mp.store (h:Mp w k b n f)(K:Keyed Try.prog k){t e:TypeId}(ht:Try.prog.underlying t = some (.map k e))(hn:n < maxLen){key:Value}{kl:Lit}(hkey:keyOf Try.prog k key = some kl)(val:Value):
  ∃ w',(Instr.mapUpdate t (.map (some b)) key val).run Try.prog w = .ok () w'/\Mp w' k b (n + 1) (upd f kl val)/\w.grownBy w' (some b)/\w'.heap.size = w.heap.size:=by
 obtain⟨D,h1,h2⟩:=h;obtain⟨w',hrun,hown,ht⟩:=h1.store K ht hn hkey (show anyR val = some (.held val,[]) from rfl);refine⟨w',hrun,Mp.put ⟨D,h1,h2,hown⟩ K hkey,ht.grown,?_⟩;obtain⟨es,clock,es',clock',_,rfl⟩:=ht;simp [ChangeMaps.setBlock]
theorem Mp.entry (h:Mp w k b n f)(K:WideMaps.KeyLaw Try.prog k){t e:TypeId}(ht:Try.prog.underlying t = some (.map k e))(hn:n < maxLen){z:Value}(hz:∀ u:World,(zeroValue e).run Try.prog u = .ok z u){key:Value}{kl:Lit}(hkey:keyOf Try.prog k key = some kl):
  ∃ st o1 w1,(Instr.mapEntry t (.map (some b)) key).run Try.prog w = .ok (.tuple #[(f kl).getD z,goInt st]) w1/\w1.heap[b]? = some o1/\w.grownBy w1 (some b)/\w1.heap.size = w.heap.size /\
   ∀ (w2:World) (val:Value),w2.heap[b]? = some o1->∃ w3,(Instr.entryStore t (.map (some b)) (goInt st) val).run Try.prog w2 = .ok () w3/\Mp w3 k b (n + 1) (upd f kl val)/\w2.grownBy w3 (some b)/\w3.heap.size = w2.heap.size:=by
 have hlook:=h.look (Keyed.of_law K) ht (hz w) hkey;have hst:=λval=>h.store (Keyed.of_law K) ht hn hkey val
 obtain⟨_,h1,_⟩:=h;obtain⟨es,clock,hb,F,_,_⟩:=h1;obtain⟨v0,st,es1,clock1,hr,hv,hback⟩:=entry_then_store K ht hz hb F hkey
 have hv0:v0 = (f kl).getD z:=by
  rcases Maps.fit_look false (Keyed.of_law K) ht (hz w) hb F hkey with ⟨hrun,hno,_⟩ | ⟨e0,y,he0,hk0,hrun,_⟩
  ·rw [hlook] at hrun
   have hz1:(f kl).getD z = z:=congrArg (λr:Result Value=>match r with | .ok v _=>v | _=>undef) hrun
   rcases hv with ⟨e1,he1,hk1,_⟩ | ⟨_,hv⟩
   ·exact absurd hk1 (hno e1 he1)
   ·rw [hv,hz1]
  ·rw [hlook] at hrun
   have hz1:(f kl).getD z = e0.val:=congrArg (λr:Result Value=>match r with | .ok v _=>v | _=>undef) hrun
   rcases hv with ⟨e1,he1,hk1,hv⟩ | ⟨hno,_⟩
   ·rw [hv,hz1]
    have hp:=((MapKept.stamped_iff es clock).1 F.stamped).2.2;rw [entry_eq_of_key hp he1 he0 (hk1.trans hk0.symm)]
   ·exact absurd hk0 (hno e0 he0)
 subst hv0;have hlt:b < w.heap.size:=(Array.getElem?_eq_some_iff.1 hb).1;refine⟨st,.map es1 clock1,_,hr,ChangeMaps.heap_setBlock_same hb _,⟨rfl,rfl,rfl,by simp [ChangeMaps.setBlock],λi _ hi=>ChangeMaps.heap_setBlock_other hb _ (λe=>hi (by rw [e]))⟩,by simp [ChangeMaps.setBlock],λw2 val hw2=>?_⟩
 obtain⟨es',clock',hr2,hr3⟩:=hback w2 val hw2;obtain⟨w',hr4,hm,_,_⟩:=hst val;rw [hr3] at hr4
 have hw':w' = ChangeMaps.setBlock w b (.map es' clock'):=by
  have h:=congrArg (λr:Result Unit=>match r with | .ok _ u=>u | _=>w) hr4
  exact h.symm
 refine⟨_,hr2,hm.same ?_,⟨rfl,rfl,rfl,by simp [ChangeMaps.setBlock],λi _ hi=>ChangeMaps.heap_setBlock_other hw2 _ (λe=>hi (by rw [e]))⟩,by simp [ChangeMaps.setBlock]⟩
 rw [hw',ChangeMaps.heap_setBlock_same hb,ChangeMaps.heap_setBlock_same hw2]
theorem Mp.len (h:Mp w k b n f){t e:TypeId}(ht:Try.prog.underlying t = some (.map k e)):∃ c,c<=n/\∀ ty,(Builtin.len_ #[t] ty #[.map (some b)]).run Try.prog w = .ok (.int .i64 (c:Nat)) w:=by
 obtain⟨D,h1,h2⟩:=h;exact⟨_,h1.size_le,λty=>h1.len ht ty⟩
end
theorem bookLaid:laidOutB Try.prog = true:=by kernel_rfl
theorem bookSize:Try.prog.types.size = Try.prog.types.size - 1 + 1:=by kernel_rfl
theorem bookCells39:Try.prog.cellsOf 26 = 32:=by kernel_rfl
theorem bookCells8:Try.prog.cellsOf 5 = 1:=by kernel_rfl
theorem hash_law:WideMaps.KeyLaw Try.prog 26:=deep_law_laid bookLaid (m:=2) (by omega) (of_decide_eq_true (by kernel_rfl)) (by kernel_rfl) (by rw [Try.underlying26])
theorem hash_keyed:Keyed Try.prog 26:=Keyed.of_law hash_law
theorem int_keyed3:Keyed Try.prog 3:=Maps.int_keyed Try.underlying3
theorem mapM_is {α β:Type}(g:α->Option β)(h:α->β):∀ l:List α,(∀ x∈l,g x = some (h x))->l.mapM g = some (l.map h)
 | [],_=>rfl
 | x :: l,hx=>by
  rw [List.mapM_cons,hx x (by simp),mapM_is g h l (λy hy=>hx y (by simp [hy]))]
  rfl
theorem keyBytes_bytes:∀ (l:List UInt8),keyBytes ((l.map λc=>[Lit.int .u8 (c.toNat:Int)]).flatten) = l
 | []=>rfl
 | c :: l=>by
  have ih:=keyBytes_bytes l
  have hc:Lit.keyBytes (.int .u8 (c.toNat:Int)) = [c]:=by
   have h1:=c.toNat_lt
   have h2:((c.toNat:Int) % 2 ^ IntKind.bits .u8).toNat = c.toNat:=by
    show((c.toNat:Int) % 256).toNat = c.toNat
    omega
   simp only [Lit.keyBytes,h2];show bytesBE 1 c.toNat = [c]
   simp [bytesBE,bytesLE]
  unfold keyBytes at ih |-;rw [List.map_cons,List.flatten_cons,List.flatMap_append,ih];simp [hc]
theorem keyOf_hash (l:List UInt8)(hl:l.length = 32):keyOf Try.prog 26 (.agg (bcells l).toArray) = some (.string l):=by
 have hf:(Value.agg (bcells l).toArray).formed Try.prog 26 = true:=by
  simp [Value.formed,Try.underlying26,bookCells39,bcells_length,hl]
 have hk:Try.prog.keyType 26 = true:=by kernel_rfl
 unfold keyOf;simp only [Try.underlying26,hf,hk,Bool.and_self,if_true]
 have hm:(List.range 32).mapM (λi=>Try.prog.keyLits Try.prog.types.size 5 (((bcells l).drop (i * Try.prog.cellsOf 5)).take (Try.prog.cellsOf 5))) = some ((List.range 32).map λi=>[Lit.int .u8 ((l.getD i 0).toNat:Int)]):=by
  refine mapM_is _ _ _ λi hi=>?_
  have hi2:i < l.length:=by rw [hl]; exact List.mem_range.1 hi
  rw [bookCells8,Nat.mul_one,List.drop_eq_getElem_cons (by rw [bcells_length]; exact hi2),List.take_succ_cons,List.take_zero,bookSize]
  have hg:(bcells l)[i]'(by rw [bcells_length]; exact hi2) = .int .u8 (l[i].toNat:Int):=by simp [bcells]
  have hwf:(Lit.int .u8 (l[i].toNat:Int)).wf = true:=by
   have h1:=(l[i]).toNat_lt;exact WalkArith.wf_u8 (by omega)
  rw [hg];simp [Program.keyLits,Try.underlying5,hwf,List.getD_eq_getElem?_getD,hi2]
 have hr:(List.range 32).map (λi=>[Lit.int .u8 ((l.getD i 0).toNat:Int)]) = l.map λc=>[Lit.int .u8 (c.toNat:Int)]:=by
  apply List.ext_getElem
  ·simp [hl]
  ·intro i h1 h2
   have hi2:i < l.length:=by simpa using h2
   simp [List.getD_eq_getElem?_getD,hi2]
 rw [hr] at hm;have hcl:(Value.agg (bcells l).toArray).cells.toList = bcells l:=by simp [Value.cells]
 rw [hcl];simp only [Program.keyLits,Try.underlying26,bookCells39,bcells_length,hl,if_true,hm,Option.map_some,keyBytes_bytes]
def byteOf:Option Value->UInt8
 | some (.int _ m)=>UInt8.ofNat m.toNat
 | _=>0
end Go.Proofs.Ytanfnafiofkihaa
namespace Go.Proofs.Ytanfnafiofkihaa
open Go.RowKit Go.Lib
open List renaming setIfInBounds_toArray -> sA, set_cons_zero -> sB, set_cons_succ -> sC
open BigFrame renaming wpList_want -> wQ
theorem hashInfoAll:(Try.prog.info? 26).map (λi=>(i.zero.map (·.cells.size),i.size,i.bytes)) = some (some 32,32,32):=by kernel_rfl
theorem hash_info:∃ i z,Try.prog.info? 26 = some i/\i.zero = some z/\z.cells.size = 32/\i.size = 32/\i.bytes = 32:=by
 have h:=hashInfoAll
 cases hq:Try.prog.info? 26 with
 | none=>rw [hq] at h; cases h
 | some i=>
  rw [hq] at h;simp only [Option.map_some,Option.some.injEq,Prod.mk.injEq] at h
  cases hz:i.zero with
  | none=>rw [hz] at h; cases h.1
  | some z=>
   rw [hz] at h;simp only [Option.map_some,Option.some.injEq] at h;exact⟨i,z,rfl,hz,h.1,h.2.1,h.2.2⟩
def OwnH (w:World)(base:Nat)(v:Value)(M:List (List UInt8)):Prop:=(∀ x∈M,x.length = 32)/\w.ownsRow base 26 32 v M.length (bcells M.flatten)
theorem OwnH.nil (w:World)(base:Nat):OwnH w base (.slice none 0 0) []:=⟨(λ_ h=>nomatch h),World.ownsRow_nil w base 26 32⟩
theorem OwnH.hs {w:World}{base:Nat}{v:Value}{M:List (List UInt8)}(h:OwnH w base v M):Hs w v M:=by
 obtain⟨h32,ho⟩:=h;refine⟨h32,?_⟩;have hlt:=ho.lt;have h0:=ho
 rcases ho.2 with ⟨rfl,hn⟩ | ⟨g,cap,cur,rfl,hb,_⟩
 ·obtain rfl:=List.length_eq_zero_iff.1 hn
  exact⟨none,0,0,0,rfl,λ_ h=>absurd h (Nat.not_lt_zero _)⟩
 ·refine⟨some ⟨g,0,none⟩,g,0,cap,rfl,λi hi=>⟨rfl,(hlt g rfl).2,λj u hu=>?_⟩⟩
  have hx:=h32 M[i] (List.getElem_mem hi)
  have hj:j < 32:=by
   rcases Nat.lt_or_ge j 32 with h1 | h1
   ·exact h1
   ·rw [List.getElem?_eq_none (by rw [bcells_length,hx]; exact h1)] at hu; cases hu
  have h2:=h0.cells (g:=g) rfl (i * 32 + j) u (by
   rw [bcells,List.getElem?_map] at hu |-;rw [flatten_at M h32 i hi j hj]
   exact hu)
  rw [Addr.add_lit,Nat.zero_add] at h2;rw [Nat.zero_add];exact h2
theorem OwnH.alloc {w:World}{base:Nat}{v:Value}{M:List (List UInt8)}(h:OwnH w base v M)(o:Obj):OwnH (w.alloc o) base v M:=⟨h.1,h.2.alloc o⟩
theorem OwnH.kept {w w':World}{base b:Nat}{v:Value}{M:List (List UInt8)}(h:OwnH w base v M)(k:Kept w.heap.size b w w')(hb:w.heap.size<=b):OwnH w' base v M:=
 ⟨h.1,h.2.kept (row:=none) ⟨k.os,k.tape,k.output,k.size,λi hi _=>k.block i hi (by omega)⟩ (by cases hv:v.ownBlock <;> simp)⟩
theorem OwnH.low {w:World}{base:Nat}{v:Value}{M:List (List UInt8)}(h:OwnH w base v M):∀ k,v.ownBlock = some k->base<=k/\k < w.heap.size:=h.2.lt
theorem append_hash (w:World)(base:Nat)(v:Value)(M:List (List UInt8))(hown:OwnH w base v M)(hbase:base<=w.heap.size)(b c:Nat)(x:List UInt8)(hx:x.length = 32)(hb:w.rangeAt b 0 (bcells x))(hl:M.length < 1073741824):
  ∃ v' w',(Builtin.append_ #[23,23] 23 #[v,.slice (some ⟨b,0,none⟩) 1 c]).run Try.prog w = .ok v' w'/\OwnH w' base v' (M ++ [x])/\w.grownBy w' v.ownBlock:=by
 obtain⟨i,z,hi,hz,hzs,hs,hby⟩:=hash_info;obtain⟨h32,ho⟩:=hown
 obtain⟨v',w',h1,h2,h3,_⟩:=run_append_own (P:=Try.prog) w base 23 23 26 i z 32 32 Try.underlying23 hi hz hs hby hzs (by decide) v M.length (bcells M.flatten) ho ⟨b,0,none⟩ 1 c (bcells x)
  (by rw [bcells_length,hx]) (λj u hu=>by
   rw [Addr.add_lit]
   exact hb j u hu)
  (bcells_one x) (by unfold maxLen; omega) (by omega) hbase
 rw [<- bcells_append] at h2;refine⟨v',w',h1,⟨λy hy=>?_,?_⟩,h3⟩
 ·rcases List.mem_append.1 hy with h | h
  ·exact h32 y h
  ·rw [List.mem_singleton] at h
   rw [h,hx]
 ·rw [List.length_append,List.length_singleton,List.flatten_append]
  simpa using h2
theorem append_hashes (w:World)(base:Nat)(v:Value)(M:List (List UInt8))(hown:OwnH w base v M)(hbase:base<=w.heap.size)(b o c:Nat)(X:List (List UInt8))(hx:∀ x∈X,x.length = 32)(hb:∀ i (hi:i < X.length),w.rangeAt b (o + i * 32) (bcells X[i]))(hl:M.length + X.length < 1073741824):
  ∃ v' w',(Builtin.append_ #[23,23] 23 #[v,.slice (some ⟨b,o,none⟩) X.length c]).run Try.prog w = .ok v' w'/\OwnH w' base v' (M ++ X)/\w.grownBy w' v.ownBlock:=by
 obtain⟨i,z,hi,hz,hzs,hs,hby⟩:=hash_info;obtain⟨h32,ho⟩:=hown
 obtain⟨v',w',h1,h2,h3,_⟩:=run_append_own (P:=Try.prog) w base 23 23 26 i z 32 32 Try.underlying23 hi hz hs hby hzs (by decide) v M.length (bcells M.flatten) ho ⟨b,o,none⟩ X.length c (bcells X.flatten)
  (by rw [bcells_length,flatten_length X hx]) (λj u hu=>by
   rw [Addr.add_lit]
   have hj:j < X.flatten.length:=by
    rcases Nat.lt_or_ge j X.flatten.length with h | h
    ·exact h
    ·rw [List.getElem?_eq_none (by rw [bcells_length]; exact h)] at hu; cases hu
   rw [flatten_length X hx] at hj;have hq:j / 32 < X.length:=by omega
   have hr:j % 32 < 32:=Nat.mod_lt _ (by decide)
   have h2:=hb (j / 32) hq (j % 32) u (by
    rw [bcells,List.getElem?_map] at hu |-;rw [<- flatten_at X hx (j / 32) hq (j % 32) hr,show j / 32 * 32 + j % 32 = j by omega]
    exact hu)
   rw [show o + j / 32 * 32 + j % 32 = o + j by omega] at h2
   exact h2)
  (bcells_one _) (by unfold maxLen; omega) (by omega) hbase
 rw [<- bcells_append,<- List.flatten_append] at h2;refine⟨v',w',h1,⟨λy hy=>?_,?_⟩,h3⟩
 ·rcases List.mem_append.1 hy with h | h
  ·exact h32 y h
  ·exact hx y h
 ·rw [List.length_append]
  exact h2
theorem OwnH.init {w:World}{base g c:Nat}{n:Nat}{M:List (List UInt8)}(h:OwnH w base (.slice (some ⟨g,0,none⟩) n c) M)(hn:n = M.length):OwnH w base (.slice (some ⟨g,0,none⟩) (n - 1) c) M.dropLast:=by
 obtain⟨h32,ho⟩:=h;subst hn;refine⟨λx hx=>h32 x (List.dropLast_subset M hx),?_⟩
 have hfl:M.dropLast.flatten = M.flatten.take ((M.length - 1) * 32):=by
  rcases List.eq_nil_or_concat M with rfl | ⟨L,x,rfl⟩
  ·rfl
  ·have hl:=flatten_length L (λy hy=>h32 y (by simp [hy]))
   rw [List.concat_eq_append,List.dropLast_concat,List.flatten_append,List.length_append,List.length_singleton,Nat.add_sub_cancel,<- hl,List.take_left]
 rcases ho.2 with ⟨h,_⟩ | ⟨g',cap,cur,hv,hb,hh,h1,h2,h3,h4⟩
 ·cases h
 ·cases hv
  refine⟨?_,.inr ⟨g,c,cur,?_,hb,hh,by rw [List.length_dropLast]; omega,h2,h3,?_⟩⟩
  ·rw [bcells_length,flatten_length _ (λx hx=>h32 x (List.dropLast_subset M hx))]
  ·rw [List.length_dropLast]
  ·rw [List.length_dropLast,hfl]
   have:bcells (M.flatten.take ((M.length - 1) * 32)) = (bcells M.flatten).take ((M.length - 1) * 32):=by simp [bcells,List.map_take]
   rw [this,<- h4,List.take_take,Nat.min_eq_left (Nat.mul_le_mul_right _ (by omega))]
theorem OwnH.grown {w w':World}{base:Nat}{v:Value}{M:List (List UInt8)}{row:Option Nat}(h:OwnH w base v M)(hg:w.grownBy w' row)(hne:v.ownBlock = none\/v.ownBlock≠row):OwnH w' base v M:=⟨h.1,h.2.kept hg hne⟩
theorem OwnH.mono {w:World}{base base':Nat}{v:Value}{M:List (List UInt8)}(h:OwnH w base v M)(hb:base'<=base):OwnH w base' v M:=by
 refine⟨h.1,h.2.1,?_⟩
 rcases h.2.2 with h1 | ⟨g,cap,cur,hv,hb2,rest⟩
 ·exact .inl h1
 ·exact .inr ⟨g,cap,cur,hv,Nat.le_trans hb hb2,rest⟩
theorem OwnH.stayAt {w w':World}{base:Nat}{v:Value}{M:List (List UInt8)}(h:OwnH w base v M)(hs:∀ (k:Nat) (cs:Array Value) (fr:Nat × Nat),v.ownBlock = some k->w.heap[k]? = some (Obj.cells cs 26 fr)->w'.heap[k]? = some (Obj.cells cs 26 fr)):OwnH w' base v M:=by
 refine⟨h.1,h.2.1,?_⟩
 rcases h.2.2 with h1 | ⟨g,cap,cur,hv,hb2,hh,rest⟩
 ·exact .inl h1
 ·exact .inr ⟨g,cap,cur,hv,hb2,hs _ _ _ (by rw [hv]; rfl) hh,rest⟩
theorem OwnH.stay {w w':World}{base:Nat}{v:Value}{M:List (List UInt8)}(h:OwnH w base v M)(hs:∀ (k:Nat) (cs:Array Value) (fr:Nat × Nat),w.heap[k]? = some (Obj.cells cs 26 fr)->w'.heap[k]? = some (Obj.cells cs 26 fr)):OwnH w' base v M:=by
 refine⟨h.1,h.2.1,?_⟩
 rcases h.2.2 with h1 | ⟨g,cap,cur,hv,hb2,hh,rest⟩
 ·exact .inl h1
 ·exact .inr ⟨g,cap,cur,hv,hb2,hs _ _ _ hh,rest⟩
theorem intInfoAll:(Try.prog.info? 3).map (λi=>(i.zero.map (·.cells.size),i.size,i.bytes)) = some (some 1,1,8):=by kernel_rfl
theorem int_info:∃ i z,Try.prog.info? 3 = some i/\i.zero = some z/\z.cells.size = 1/\i.size = 1/\i.bytes = 8:=by
 have h:=intInfoAll
 cases hq:Try.prog.info? 3 with
 | none=>rw [hq] at h; cases h
 | some i=>
  rw [hq] at h;simp only [Option.map_some,Option.some.injEq,Prod.mk.injEq] at h
  cases hz:i.zero with
  | none=>rw [hz] at h; cases h.1
  | some z=>
   rw [hz] at h;simp only [Option.map_some,Option.some.injEq] at h;exact⟨i,z,rfl,hz,h.1,h.2.1,h.2.2⟩
def ints (l:List Nat):List Value:=l.map λ(n:Nat)=>Value.int .i64 (n:Int)
theorem ints_get (l:List Nat)(i:Nat)(hi:i < l.length):(ints l)[i]? = some (.int .i64 (l[i]:Nat)):=by simp [ints,hi]
def OwnI (w:World)(base:Nat)(v:Value)(l:List Nat):Prop:=w.ownsRow base 3 1 v l.length (ints l)
theorem OwnI.nil (w:World)(base:Nat):OwnI w base (.slice none 0 0) []:=World.ownsRow_nil w base _ 1
theorem OwnI.shape {w:World}{base:Nat}{v:Value}{l:List Nat}(h:OwnI w base v l):∃ ad g c,v = .slice ad l.length c/\(l≠[]->ad = some ⟨g,0,none⟩/\g < w.heap.size):=by
 have hlt:=h.lt
 rcases h.2 with ⟨rfl,hn⟩ | ⟨g,cap,cur,rfl,_⟩
 ·refine⟨none,0,0,by rw [hn],λhl=>absurd (List.length_eq_zero_iff.1 hn) hl⟩
 ·exact⟨some ⟨g,0,none⟩,g,cap,rfl,λ_=>⟨rfl,(hlt g rfl).2⟩⟩
theorem OwnI.cell {w:World}{base g n c:Nat}{l:List Nat}(h:OwnI w base (.slice (some ⟨g,0,none⟩) n c) l)(i:Nat)(hi:i < l.length):w.cell? ⟨g,0 + i,none⟩ = some (.int .i64 (l[i]:Nat)):=by
 have:=h.cells (g:=g) rfl i _ (ints_get l i hi)
 rwa [Addr.add_lit] at this
theorem append_int (w:World)(base:Nat)(v:Value)(l:List Nat)(hown:OwnI w base v l)(hbase:base<=w.heap.size)(b c x:Nat)(hb:w.cell? ⟨b,0,none⟩ = some (.int .i64 (x:Nat)))(hl:l.length < 1073741824):
  ∃ v' w',(Builtin.append_ #[58,58] 58 #[v,.slice (some ⟨b,0,none⟩) 1 c]).run Try.prog w = .ok v' w'/\OwnI w' base v' (l ++ [x])/\w.grownBy w' v.ownBlock/\(v'.ownBlock = v.ownBlock\/v'.ownBlock = some w.heap.size):=by
 obtain⟨i,z,hi,hz,hzs,hs,hby⟩:=int_info
 obtain⟨v',w',h1,h2,h3,_,h4⟩:=run_append_own_at (P:=Try.prog) w base 58 58 3 i z 1 8 Try.underlying58 hi hz hs hby hzs (by decide) v l.length (ints l) hown ⟨b,0,none⟩ 1 c [.int .i64 (x:Nat)]
  rfl (λj u hu=>by
   rw [Addr.add_lit]
   match j with
   | 0=>cases hu; exact hb
   | j + 1=>simp at hu) (λu hu=>by simp at hu; subst hu; rfl) (by unfold maxLen; omega) (by omega) hbase
 refine⟨v',w',h1,?_,h3,h4⟩;unfold OwnI;rw [List.length_append,List.length_singleton,show ints (l ++ [x]) = ints l ++ [.int .i64 (x:Nat)] by simp [ints]]
 exact h2
theorem OwnI.stay {w w':World}{base:Nat}{v:Value}{l:List Nat}(h:OwnI w base v l)(hs:∀ k,v.ownBlock = some k->w'.heap[k]? = w.heap[k]?):OwnI w' base v l:=by
 refine⟨h.1,?_⟩
 rcases h.2 with h1 | ⟨g,cap,cur,rfl,hb2,hh,rest⟩
 ·exact .inl h1
 ·exact .inr ⟨g,cap,cur,rfl,hb2,(hs g rfl).trans hh,rest⟩
def inList (L:List (List UInt8))(h:List UInt8):Bool:=L.contains h
def alikeB (L M:List (List UInt8)):Bool:=L == M
theorem has_calls (L:List (List UInt8))(h:List UInt8)(hh:h.length = 32)(v:Value)(w:World)(hL:Hs w v L)(hn:L.length < 1073741824):
  Calls Try.prog 33 #[v,.agg (bcells h).toArray] w λe w'=>e = .returned (.bool (inList L h))/\Kept w.heap.size w.heap.size w w':=by
 obtain⟨h32,ad,g,o,c,rfl,hcell⟩:=hL;have hcs:(bcells h).toArray.size = 32:=by rw [List.size_toArray,bcells_length,hh]
 have heq:=λ(w:World) (x:List UInt8) (hx:x.length = 32)=>book_equal38 w x h hx hh
 generalize (bcells h).toArray = ch at hcs heq |-;have HE:=hid heq;have HC:=hid hcell;have H32:=hid h32;clear heq hcell h32
 go_enter Try.func33,Try.ntmps33
 go_upto_region 1 with fail
 have hA:(w.alloc (.cells ch 25)).heap[w.heap.size]? = some (.cells ch 25 (0,0)):=heap_new _ _
 have k1:Kept w.heap.size w.heap.size w (w.alloc (.cells ch 25)):=(Kept.refl _ _ _).alloc (Nat.le_refl _) _
 have s1:(w.alloc (.cells ch 25)).heap.size = w.heap.size + 1:=by simp
 generalize w.alloc (.cells ch 25) = w1 at hA k1 s1 |-
 obtain⟨wa,hwa⟩:∃ wa,wa = w.heap.size:=⟨_,rfl⟩;rw [<- hwa] at hA k1 s1 |-;have HWA:=hid hwa;have HA:=hid hA;have HK1:=hid k1;have HS1:=hid s1;have hia:(Try.prog.info? 25).map (·.size) = some ch.size:=by rw [bookInfo38,hcs]
 have HIA:=hid hia;have gd:=bookGuard38;clear hwa hA k1 s1 hia
 go_wp2_with fail
 go_loopw [5] (λi w9=>∃ k:Nat,k<=L.length/\i = .int .i64 (k:Int)/\Hid (∀ j (hj:j < L.length),j < k->L[j]≠h)/\Hid (Kept w1.heap.size w1.heap.size w1 w9)) (λi _=>L.length - (RowKit.intOf i).toNat)
 case atStart=>exact⟨0,by omega,rfl,hid λ_ _ h=>absurd h (Nat.not_lt_zero _),hid (Kept.refl _ _ _)⟩
 case round=>
  obtain⟨k,hk,rfl,hno,hK⟩:=hrel
  by_cases hlt:k < L.length
  ·obtain⟨rfl,hg,hr⟩:=HC.out k hlt
   have hx32:=H32.out L[k] (List.getElem_mem hlt);have hxk:=hno.out;have hln:(k:Int) < (L.length:Int):=by omega
   have hk0:¬ (k:Int) < 0:=by omega
   have hgr:g < wr.heap.size:=by have:=HS1.out; have:=HWA.out; have:=hK.out.size; omega
   have hgx:wr.rangeAt g (o + k * 32) (bcells L[k]):=rangeAt_kept hK.out (rangeAt_kept HK1.out hr (by rw [HWA.out]; exact hg) (by rw [HWA.out]; omega)) (by have:=HS1.out; have:=HWA.out; omega) (by have:=HS1.out; have:=HWA.out; omega)
   have heqk:=λw=>HE.out w L[k] hx32
   have hmore:L[k]≠h->∀ j (hj:j < L.length),j < k + 1->L[j]≠h:=λhne j hj hjk=>by
    rcases Nat.lt_or_ge j k with h1 | h1
    ·exact hxk j hj h1
    ·obtain rfl:j = k:=by omega
     exact hne
   have hfound:L[k] = h->inList L h = true:=λe=>by
    rw [inList,List.contains_iff_mem];exact e ▸ List.getElem_mem hlt
   have hrange:=λw'=>mid_regrown (w:=wr) hgr hgx w'
   have harow:=λw'=>range_regrown (w:=wr) ((hK.out.block wa (by have:=HS1.out; omega) (by have:=HS1.out; omega)).trans HA.out) w'
   have hxl:(Try.prog.info? 25).map (·.size) = some (bcells L[k]).length:=by rw [bookInfo38,bcells_length,hx32]
   generalize L[k] = X at heqk hmore hfound hrange hxl;have HR:=hid hrange;have HAR:=hid harow;have HXL:=hid hxl;have Hmore:=hid hmore;have Hfound:=hid hfound;clear hrange harow hxl hmore hfound hxk hgx hr hx32
   go_upto_region 4 with fail
   refine wp_region_quiet_below (by kernel_rfl) (by kernel_rfl) ?_
   repeat
    first
     | (refine wpQuiet_load_row 25 _ rfl wa rfl ch _ HAR.out Try.underlying25 rfl HIA.out rfl ?_; go_simp)
     | (refine wpQuiet_load_at 25 _ rfl g (o + k * 32) rfl (bcells X) _ HR.out Try.underlying25 rfl HXL.out rfl ?_; go_simp)
     | (quiet_step (fail))
   refine wpQuiet_nil ?_;intro p;have k2:=regrown_kept (w:=wr) ⟨p,rfl⟩;generalize Go.Sort.grow (redrawn wr p.d) p.os = w2 at k2 |-;clear heqk;generalize hbe:(X == h) = B
   cases B with
   | true=>
    have HCn:=hid (Hfound.out (eq_of_beq hbe));clear hbe;go_wp2;go_ret;refine⟨by show Ending.returned (.bool true) = _; rw [HCn.out],?_⟩;have e1:=HWA.out;have e2:=HS1.out;have e3:=hK.out.size;rw [<- e1];exact(HK1.out.trans (hK.out.mono (by omega) (λk hk _=>by omega))).trans (k2.mono (by omega) (λk hk _=>by omega))
   | false=>
    have Hno2:=hid (Hmore.out (beq_eq_false_iff_ne.1 hbe));have Hk2:=hid (hK.out.trans (k2.mono hK.out.size (λk hk _=>by have:=hK.out.size; omega)))
    clear k2 hbe;go_wp2;exact⟨⟨k + 1,by omega,by rw [Int.natCast_add]; rfl,Hno2,Hk2⟩,by simp only [RowKit.intOf]; omega⟩
  ·obtain rfl:k = L.length:=by omega
   have hc:inList L h = false:=by
    rw [inList,<- Bool.not_eq_true,List.contains_iff_mem];intro hm;obtain⟨j,hj,e⟩:=List.getElem_of_mem hm;exact hno.out j hj hj e
   have HCn:=hid hc;clear hc;go_wp2;go_ret;refine⟨by show Ending.returned (.bool false) = _; rw [HCn.out],?_⟩;have e1:=HWA.out;have e2:=HS1.out;rw [<- e1];exact HK1.out.trans (hK.out.mono (by omega) (λk hk _=>by omega))
theorem alike_calls (L M:List (List UInt8))(v u:Value)(w:World)(hL:Hs w v L)(hM:Hs w u M)(hn:L.length < 1073741824)(hm:M.length < 1073741824):
  Calls Try.prog 20 #[v,u] w λe w'=>e = .returned (.bool (alikeB L M))/\Kept w.heap.size w.heap.size w w':=by
 obtain⟨h32,ad,g,o,c,rfl,hcell⟩:=hL;obtain⟨m32,bd,b,q,d,rfl,mcell⟩:=hM;have HC:=hid hcell;have H32:=hid h32;have MC:=hid mcell;have M32:=hid m32;clear hcell h32 mcell m32;have gd:=bookGuard38
 go_enter Try.func20,Try.ntmps20
 by_cases hlen:L.length = M.length
 ·have hd:((L.length:Int) != (M.length:Int)) = false:=by rw [bne_eq_false_iff_eq,hlen]
  have HLE:=hid hlen;clear hlen
  go_wp2_with fail
  go_loopw [5] (λi w9=>∃ k:Nat,k<=L.length/\i = .int .i64 (k:Int)/\Hid (L.take k = M.take k)/\Hid (Kept w.heap.size w.heap.size w w9)) (λi _=>L.length - (RowKit.intOf i).toNat)
  case atStart=>exact⟨0,by omega,rfl,hid (by simp),hid (Kept.refl _ _ _)⟩
  case round=>
   obtain⟨k,hk,rfl,hno,hK⟩:=hrel
   by_cases hlt:k < L.length
   ·obtain⟨rfl,hg,hr⟩:=HC.out k hlt
    have hltm:k < M.length:=by rw [<- HLE.out]; exact hlt
    obtain⟨rfl,hb,hq⟩:=MC.out k hltm;have hx32:=H32.out L[k] (List.getElem_mem hlt);have hy32:=M32.out M[k] (List.getElem_mem hltm);have hln:(k:Int) < (L.length:Int):=by omega
    have hlm:(k:Int) < (M.length:Int):=by omega
    have hk0:¬ (k:Int) < 0:=by omega
    have hgr:g < wr.heap.size:=by have:=hK.out.size; omega
    have hbr:b < wr.heap.size:=by have:=hK.out.size; omega
    have hgx:wr.rangeAt g (o + k * 32) (bcells L[k]):=rangeAt_kept hK.out hr hg (Nat.ne_of_lt hg);have hbx:wr.rangeAt b (q + k * 32) (bcells M[k]):=rangeAt_kept hK.out hq hb (Nat.ne_of_lt hb);have heqk:=λw=>book_equal38 w L[k] M[k] hx32 hy32
    have hmore:L[k] = M[k]->L.take (k + 1) = M.take (k + 1):=λe=>by
     rw [List.take_succ_eq_append_getElem hlt,List.take_succ_eq_append_getElem hltm,hno.out,e]
    have hfound:L[k]≠M[k]->alikeB L M = false:=λe=>by
     rw [alikeB,beq_eq_false_iff_ne];intro h;exact e (by subst h; rfl)
    have hrange:=λw'=>mid_regrown (w:=wr) hgr hgx w'
    have harow:=λw'=>mid_regrown (w:=wr) hbr hbx w'
    have hxl:(Try.prog.info? 25).map (·.size) = some (bcells L[k]).length:=by rw [bookInfo38,bcells_length,hx32]
    have hyl:(Try.prog.info? 25).map (·.size) = some (bcells M[k]).length:=by rw [bookInfo38,bcells_length,hy32]
    generalize L[k] = X at heqk hmore hfound hrange hxl;generalize M[k] = Y at heqk hmore hfound harow hyl;have HR:=hid hrange;have HAR:=hid harow;have HXL:=hid hxl;have HYL:=hid hyl;have Hmore:=hid hmore;have Hfound:=hid hfound;clear hrange harow hxl hyl hmore hfound hgx hbx hr hq hx32 hy32
    go_upto_region 6 with fail
    refine wp_region_quiet_below (by kernel_rfl) (by kernel_rfl) ?_
    repeat
     first
      | (refine wpQuiet_load_at 25 _ rfl g (o + k * 32) rfl (bcells X) _ HR.out Try.underlying25 rfl HXL.out rfl ?_; go_simp)
      | (refine wpQuiet_load_at 25 _ rfl b (q + k * 32) rfl (bcells Y) _ HAR.out Try.underlying25 rfl HYL.out rfl ?_; go_simp)
      | (quiet_step (fail))
    refine wpQuiet_nil ?_;intro p;have k2:=regrown_kept (w:=wr) ⟨p,rfl⟩;generalize Go.Sort.grow (redrawn wr p.d) p.os = w2 at k2 |-;clear heqk;generalize hbe:(X == Y) = B
    cases B with
    | true=>
     have Hno2:=hid (Hmore.out (eq_of_beq hbe));have Hk2:=hid (hK.out.trans (k2.mono hK.out.size (λk hk _=>by have:=hK.out.size; omega)))
     clear k2 hbe;go_wp2;exact⟨⟨k + 1,by omega,by rw [Int.natCast_add]; rfl,Hno2,Hk2⟩,by simp only [RowKit.intOf]; omega⟩
    | false=>
     have HCn:=hid (Hfound.out (beq_eq_false_iff_ne.1 hbe));clear hbe;go_wp2;go_ret;exact⟨by show Ending.returned (.bool false) = _; rw [HCn.out],hK.out.trans (k2.mono hK.out.size (λk hk _=>by have:=hK.out.size; omega))⟩
   ·obtain rfl:k = L.length:=by omega
    have hc:alikeB L M = true:=by
     have h1:=hno.out;rw [List.take_of_length_le (Nat.le_refl _),List.take_of_length_le (by have:=HLE.out; omega)] at h1
     rw [alikeB,h1];exact beq_self_eq_true M
    have HCn:=hid hc;clear hc;go_wp2;go_ret;exact⟨by show Ending.returned (.bool true) = _; rw [HCn.out],hK.out⟩
 ·have hd:((L.length:Int) != (M.length:Int)) = true:=by rw [bne_iff_ne]; omega
  have hc:alikeB L M = false:=by
   rw [alikeB,beq_eq_false_iff_ne];intro h;exact hlen (by rw [h])
  have HCn:=hid hc;clear hlen hc;go_wp2;go_ret;exact⟨by show Ending.returned (.bool false) = _; rw [HCn.out],Kept.refl _ _ _⟩
def Known (w:World)(km:Nat)(K:List (List UInt8)):Prop:=
 ∃ f,Mp w 26 km K.length f/\∀ l:List UInt8,(l∈K->f (.string l) = some (.agg #[]))/\(l∉K->f (.string l) = none)
structure Put (w:World) (B kb lb km:Nat) (K L:List (List UInt8)) (lv:Value):Prop where
 kbox:w.heap[kb]? = some (.cells #[.map (some km)] 95 (0,0))
 lbox:w.heap[lb]? = some (.cells #[lv] 23 (0,0))
 known:Known w km K
 left:OwnH w B lv L
 bk:B<=kb
 bl:B<=lb
 bm:B<=km
structure PutFr (B km:Nat) (w w':World):Prop where
 kept:Kept B B w w'
 maps:∀ (k:Nat) (es:Array MapEntry) (c:Nat),k≠km->w.heap[k]? = some (.map es c)->w'.heap[k]? = some (.map es c)
theorem PutFr.refl (B km:Nat)(w:World):PutFr B km w w:=⟨Kept.refl _ _ _,λ_ _ _ _ h=>h⟩
theorem PutFr.trans {B km:Nat}{w1 w2 w3:World}(h:PutFr B km w1 w2)(k:PutFr B km w2 w3):PutFr B km w1 w3:=⟨h.kept.trans k.kept,λi es c hi h1=>k.maps i es c hi (h.maps i es c hi h1)⟩
theorem PutFr.alloc {B km:Nat}{w1 w:World}(h:PutFr B km w1 w)(hB:B<=w.heap.size)(o:Obj):PutFr B km w1 (w.alloc o):=
 ⟨h.kept.alloc hB o,λi es c hi h1=>by
  have h2:=h.maps i es c hi h1;rw [Below.heap_alloc _ _ _ (lt_of_block h2)]
  exact h2⟩
theorem PutFr.grown {B km:Nat}{w1 w w2:World}{row:Option Nat}(h:PutFr B km w1 w)(hg:w.grownBy w2 row)(hB:B<=w.heap.size)(hr:∀ k,row = some k->B<=k)(hm:∀ k,row = some k->k = km\/∀ es c,w.heap[k]?≠some (.map es c)):PutFr B km w1 w2:=
 ⟨h.kept.grown hg hB hr,λi es c hi h1=>by
  have h2:=h.maps i es c hi h1
  rw [hg.block i (lt_of_block h2) (λe=>by
   rcases hm i e.symm with h3 | h3
   ·exact hi h3
   ·exact h3 es c h2)]
  exact h2⟩
theorem PutFr.set {B km b o:Nat}{w1 w:World}(h:PutFr B km w1 w)(hb:B<=b)(u:Value)(hm:∀ es c,w.heap[b]?≠some (.map es c)):PutFr B km w1 (w.setCell ⟨b,o,none⟩ u):=
 ⟨h.kept.set (.inr hb) o u,λi es c hi h1=>by
  have h2:=h.maps i es c hi h1;rw [setCell_other _ _ _ _ _ (λe=>by subst e; exact hm es c h2)]
  exact h2⟩
theorem OwnH.notMap {w:World}{B:Nat}{v:Value}{L:List (List UInt8)}(h:OwnH w B v L)(k:Nat)(hk:v.ownBlock = some k):∀ es c,w.heap[k]?≠some (.map es c):=by
 rcases h.2.2 with ⟨rfl,_⟩ | ⟨g,cap,cur,rfl,_,hh,_⟩
 ·simp [Value.ownBlock] at hk
 ·simp [Value.ownBlock] at hk
  subst hk;intro es c;rw [hh];simp
theorem OwnH.notType {w:World}{B:Nat}{v:Value}{L:List (List UInt8)}(h:OwnH w B v L){k:Nat}{cs:Array Value}{t:TypeId}{fr:Nat × Nat}(hk:w.heap[k]? = some (.cells cs t fr))(ht:t≠26):v.ownBlock≠some k:=by
 rcases h.2.2 with ⟨rfl,_⟩ | ⟨g,cap,cur,rfl,_,hh,_⟩
 ·simp [Value.ownBlock]
 ·intro e
  simp [Value.ownBlock] at e;subst e;rw [hh] at hk
  cases hk
  exact ht rfl
theorem Mp.notCells {w:World}{k:TypeId}{b n:Nat}{f:Lit->Option Value}(h:Mp w k b n f){cs:Array Value}{t:TypeId}{fr:Nat × Nat}(hb:w.heap[b]? = some (.cells cs t fr)):False:=h.ne hb rfl
theorem Known.same {w w':World}{km:Nat}{K:List (List UInt8)}(h:Known w km K)(hb:w'.heap[km]? = w.heap[km]?):Known w' km K:=by
 obtain⟨f,h1,h2⟩:=h;exact⟨f,h1.same hb,h2⟩
theorem Known.lt {w:World}{km:Nat}{K:List (List UInt8)}(h:Known w km K):km < w.heap.size:=by
 obtain⟨f,h1,_⟩:=h;exact h1.lt
theorem Known.notCells {w:World}{km:Nat}{K:List (List UInt8)}(h:Known w km K){cs:Array Value}{t:TypeId}{fr:Nat × Nat}(hb:w.heap[km]? = some (.cells cs t fr)):False:=by
 obtain⟨f,h1,_⟩:=h;exact h1.notCells hb
theorem Put.alloc {w:World}{B kb lb km:Nat}{K L:List (List UInt8)}{lv:Value}(h:Put w B kb lb km K L lv)(o:Obj):Put (w.alloc o) B kb lb km K L lv:=
 ⟨by rw [Below.heap_alloc _ _ _ (lt_of_block h.kbox)]; exact h.kbox,by rw [Below.heap_alloc _ _ _ (lt_of_block h.lbox)]; exact h.lbox,h.known.same (Below.heap_alloc _ _ _ h.known.lt),h.left.alloc o,h.bk,h.bl,h.bm⟩
theorem unit_zero (w:World):(zeroValue 116).run Try.prog w = .ok (.agg #[]) w:=by kernel_rfl
theorem known_look {w:World}{km:Nat}{K:List (List UInt8)}(h:Known w km K)(x:List UInt8)(hx:x.length = 32):
  (Instr.lookup 95 (.map (some km)) (.agg (bcells x).toArray) true).run Try.prog w = .ok (.tuple #[.agg #[],.bool (inList K x)]) w:=by
 obtain⟨f,h1,h2⟩:=h;have:=h1.look_ok hash_keyed Try.underlying95 (unit_zero w) (keyOf_hash x hx)
 rw [this]
 by_cases hm:x∈K
 ·rw [(h2 x).1 hm,show inList K x = true by unfold inList; exact List.contains_iff_mem.2 hm]
  rfl
 ·rw [(h2 x).2 hm,show inList K x = false by rw [<- Bool.not_eq_true]; unfold inList; exact λh=>hm (List.contains_iff_mem.1 h)]
  rfl
theorem known_put {w:World}{km:Nat}{K:List (List UInt8)}(h:Known w km K)(x:List UInt8)(hx:x.length = 32)(hn:K.length < 1073741824):
  ∃ w',(Instr.mapUpdate 95 (.map (some km)) (.agg (bcells x).toArray) (.agg #[])).run Try.prog w = .ok () w'/\Known w' km (K ++ [x])/\w.grownBy w' (some km)/\w'.heap.size = w.heap.size:=by
 obtain⟨f,h1,h2⟩:=h;obtain⟨w',hr,hm,hg,hs⟩:=h1.store hash_keyed Try.underlying95 (by unfold maxLen; omega) (keyOf_hash x hx) (.agg #[])
 refine⟨w',hr,⟨_,by rw [List.length_append]; exact hm,λl=>⟨λhl=>?_,λhl=>?_⟩⟩,hg,hs⟩
 ·by_cases he:l = x
  ·rw [he,upd_same]
  ·rw [upd_other _ _ (λe=>he (by cases e; rfl))]
   refine(h2 l).1 ?_
   rcases List.mem_append.1 hl with h | h
   ·exact h
   ·exact absurd (List.mem_singleton.1 h) he
 ·have he:l≠x:=λe=>hl (by rw [e]; simp)
  rw [upd_other _ _ (λe=>he (by cases e; rfl))]
  exact(h2 l).2 (λh=>hl (List.mem_append_left _ h))
theorem grownBy_set (w:World)(b o:Nat)(u:Value):w.grownBy (w.setCell ⟨b,o,none⟩ u) (some b):=
 ⟨rfl,rfl,rfl,by simp [World.setCell],λk _ hk=>setCell_other w b o u k (λe=>hk (by rw [e]))⟩
theorem Put.more {w w':World}{B kb lb km:Nat}{K K' L:List (List UInt8)}{lv:Value}(h:Put w B kb lb km K L lv)(hg:w.grownBy w' (some km))(hk:Known w' km K'):Put w' B kb lb km K' L lv:=by
 have n1:some kb≠some km:=λe=>by cases e; exact h.known.notCells h.kbox
 have n2:some lb≠some km:=λe=>by cases e; exact h.known.notCells h.lbox
 refine⟨(hg.block kb (lt_of_block h.kbox) n1).trans h.kbox,(hg.block lb (lt_of_block h.lbox) n2).trans h.lbox,hk,h.left.grown hg ?_,h.bk,h.bl,h.bm⟩
 cases ho:lv.ownBlock with
 | none=>exact .inl rfl
 | some k=>exact .inr (λe=>by
   cases e
   obtain⟨f,⟨D,⟨es,c,hh,_⟩,_⟩,_⟩:=h.known
   exact h.left.notMap km ho es c hh)
theorem Put.stored {w w':World}{B kb lb km:Nat}{K L L':List (List UInt8)}{lv lv':Value}(h:Put w B kb lb km K L lv)(hg:w.grownBy w' lv.ownBlock)(ho:OwnH w' B lv' L'):
  w'.heap[lb]? = some (.cells #[lv] 23 (0,0))/\Put (w'.setCell ⟨lb,0,none⟩ lv') B kb lb km K L' lv':=by
 have hlb:=(hg.block lb (lt_of_block h.lbox) (λe=>h.left.notType h.lbox (by decide) e.symm)).trans h.lbox
 have hkb:=(hg.block kb (lt_of_block h.kbox) (λe=>h.left.notType h.kbox (by decide) e.symm)).trans h.kbox
 have hkm:w'.heap[km]? = w.heap[km]?:=hg.block km h.known.lt (λe=>by
  obtain⟨f,⟨D,⟨es,c,hh,_⟩,_⟩,_⟩:=h.known
  exact h.left.notMap km e.symm es c hh)
 have nk:kb≠lb:=λe=>by
  subst e;rw [hkb] at hlb;simp at hlb
 have nm:km≠lb:=λe=>by
  subst e;exact h.known.notCells h.lbox
 refine⟨hlb,(setCell_other _ _ _ _ _ nk).trans hkb,?_,h.known.same ((setCell_other _ _ _ _ _ nm).trans hkm),ho.grown (grownBy_set _ _ _ _) (.inr (ho.notType hlb (by decide))),h.bk,h.bl,h.bm⟩
 have:=cells_set (cs:=[lv]) hlb 0 lv'
 simpa using this
theorem putter_calls (B kb lb km:Nat)(K L X:List (List UInt8))(lv v:Value)(w:World)(hX:Hs w v X)(hP:Put w B kb lb km K L lv)(hlow:∀ ad n c,v = .slice (some ad) n c->X≠[]->ad.block < B)(hB:B<=w.heap.size)(hn:K.length + X.length < 268435456)(hnl:L.length<=K.length):
  Calls Try.prog 76 #[v,.pointer (some ⟨kb,0,none⟩),.pointer (some ⟨lb,0,none⟩)] w λe w'=>e = .returned (.tuple #[])/\∃ N lv',Put w' B kb lb km (K ++ N) (L ++ N) lv'/\PutFr B km w w'/\(∀ x∈N,x∈X/\x∉K)/\N.Nodup/\(∀ x∈X,x∈K ++ N)/\N.length<=X.length:=by
 obtain⟨x32,ad,g,o,c,rfl,hcell⟩:=hX
 have hlow2:∀ i (hi:i < X.length),g < B:=λi hi=>by
  obtain⟨rfl,_⟩:=hcell i hi;exact hlow ⟨g,o,none⟩ _ _ rfl (λe=>by subst e; exact absurd hi (Nat.not_lt_zero _))
 have HC:=hid hcell;have H32:=hid x32;have HLOW:=hid hlow2;have HP:=hid hP;have hxl0:X.length < 1073741824:=by omega
 have HN:=hid hn;have HNL:=hid hnl;clear hcell x32 hlow hlow2 hP hn hnl
 go_enter Try.func76,Try.ntmps76
 go_wp2_with fail
 go_loopw [10] (λs10 w9=>∃ (k:Nat) (N:List (List UInt8)) (lv':Value),k<=X.length/\s10 = .int .i64 (k:Int)/\Hid (Put w9 B kb lb km (K ++ N) (L ++ N) lv')/\Hid (PutFr B km w w9)/\Hid ((∀ x∈N,x∈X/\x∉K)/\N.Nodup/\(∀ x∈X.take k,x∈K ++ N)/\N.length<=k)) (λs10 _=>X.length - (RowKit.intOf s10).toNat)
 case atStart=>exact⟨0,[],lv,by omega,rfl,hid (by simpa using HP.out),hid (PutFr.refl _ _ _),hid ⟨by simp,by simp,by simp,by simp⟩⟩
 case round=>
  obtain⟨k,N,lv',hk,rfl,hP,hF,hN⟩:=hrel
  by_cases hlt:k < X.length
  ·obtain⟨rfl,hg,hr⟩:=HC.out k hlt
   have hgB:=HLOW.out k hlt;have hx32:=H32.out X[k] (List.getElem_mem hlt);have hln:(k:Int) < (X.length:Int):=by omega
   have hk0:¬ (k:Int) < 0:=by omega
   have hgx:wr.rangeAt g (o + k * 32) (bcells X[k]):=rangeAt_kept hF.out.kept hr hgB (Nat.ne_of_lt hgB);have hxl:(Try.prog.info? 26).map (·.size) = some (bcells X[k]).length:=by rw [show(Try.prog.info? 26).map (·.size) = some 32 by kernel_rfl,bcells_length,hx32]
   have htk:=List.take_succ_eq_append_getElem hlt;have hmem:X[k]∈X:=List.getElem_mem hlt;generalize X[k] = x at hx32 hgx hxl htk hmem;have hBr:B<=wr.heap.size:=Nat.le_trans hB hF.out.kept.size;obtain⟨bl,hbl⟩:∃ bl,bl = bcells x:=⟨_,rfl⟩;have hbl32:bl.length = 32:=by rw [hbl,bcells_length,hx32]
   have hst:=store_new (P:=Try.prog) wr 26 zeros32 bl.toArray (by rw [zeros32_size,List.size_toArray,hbl32]) (by rw [hbl]; exact bcells_all x)
   have hP1:=hP.out.alloc (.cells bl.toArray 26)
   have hF1:=hF.out.alloc hBr (.cells bl.toArray 26)
   have hA1:=heap_new wr (.cells bl.toArray 26)
   have s1:(wr.alloc (.cells bl.toArray 26)).heap.size = wr.heap.size + 1:=by simp
   have hlook:=λw' (h:Known w' km (K ++ N))=>known_look h x hx32
   have hput:=λw' (h:Known w' km (K ++ N))=>known_put h x hx32 (by rw [List.length_append]; have:=HN.out; have:=hN.out.2.2.2; omega)
   have happ:=λ(w':World) (lv:Value) (ho:OwnH w' B lv (L ++ N)) (hb:B<=w'.heap.size)=>append_hash (w'.alloc (.cells (bcells x).toArray 26)) B lv (L ++ N) (ho.alloc _) (by simp; omega) w'.heap.size 1 x hx32 (λj v hv=>by rw [Nat.zero_add]; exact cells_get (heap_new w' _) hv) (by rw [List.length_append]; have:=HN.out; have:=HNL.out; have:=hN.out.2.2.2; omega)
   rw [<- hbl] at hlook hput happ hgx hxl;have hia:(Try.prog.info? 26).map (·.size) = some bl.toArray.size:=by rw [List.size_toArray,hbl32]; kernel_rfl
   have HR:=hid hgx;have HXL:=hid hxl;have HTK:=hid htk;have HST:=hid hst;have HIA:=hid hia;have HP1:=hid hP1;have HF1:=hid hF1;have HA1:=hid hA1;have HS1:=hid s1;have HPUT:=hid hput;have HAPP:=hid happ;have HBR:=hid hBr;have HLK:=hid hlook;clear hgx hxl htk hst hia hP1 hF1 hA1 s1 hput happ hBr hlook hr hbl
   go_wp2_with (with_reducible refine wpList_load_mid rfl 26 _ rfl g (o + k * 32) rfl bl _ HR.out Try.underlying26 rfl HXL.out ?_)
   rw [zeros32_eq,HST.out];generalize hw1:wr.alloc (.cells bl.toArray 26) = w1 at HP1 HF1 HA1 HS1 |-
   have e1:=cells_get (j:=0) HP1.out.kbox rfl;have hlk1:=HLK.out w1 HP1.out.known;have hP2:=HP1.out.alloc (.cells #[] 116)
   have hF2:=HF1.out.alloc (by have:=HS1.out; have:=HBR.out; omega) (.cells #[] 116)
   have hA2:=(Below.heap_alloc w1 (.cells #[] 116) wr.heap.size (by have:=HS1.out; omega)).trans HA1.out
   have s2:(w1.alloc (.cells #[] 116)).heap.size = wr.heap.size + 2:=by have:=HS1.out; simp; omega
   have HP2:=hid hP2;have HF2:=hid hF2;have HA2:=hid hA2;have HS2:=hid s2;clear hP2 hF2 hA2 s2;generalize hbx:inList (K ++ N) x = bx at hlk1
   have hsame:bx = true->((∀ y∈N,y∈X/\y∉K)/\N.Nodup/\(∀ y∈X.take (k + 1),y∈K ++ N)/\N.length<=k + 1):=λhb=>by
    obtain⟨n1,n2,n3,n4⟩:=hN.out;refine⟨n1,n2,λy hy=>?_,by omega⟩
    rw [HTK.out] at hy
    rcases List.mem_append.1 hy with h | h
    ·exact n3 y h
    ·rw [List.mem_singleton.1 h]
     exact List.contains_iff_mem.1 (hbx.trans hb)
   have hnext:bx = false->((∀ y∈N ++ [x],y∈X/\y∉K)/\(N ++ [x]).Nodup/\(∀ y∈X.take (k + 1),y∈K ++ (N ++ [x]))/\(N ++ [x]).length<=k + 1):=λhb=>by
    obtain⟨n1,n2,n3,n4⟩:=hN.out
    have hno:x∉K ++ N:=λh=>by
     have:=List.contains_iff_mem.2 h;unfold inList at hbx;rw [hbx,hb] at this
     cases this
    refine⟨λy hy=>?_,?_,λy hy=>?_,by simp; omega⟩
    ·rcases List.mem_append.1 hy with h | h
     ·exact n1 y h
     ·rw [List.mem_singleton.1 h]
      exact⟨hmem,λh=>hno (List.mem_append_left _ h)⟩
    ·rw [List.nodup_append]
     refine⟨n2,by simp,λa ha b hb2 e=>?_⟩
     rw [List.mem_singleton] at hb2;subst hb2;subst e;exact hno (List.mem_append_right _ ha)
    ·rw [HTK.out] at hy
     rw [<- List.append_assoc]
     rcases List.mem_append.1 hy with h | h
     ·exact List.mem_append_left _ (n3 y h)
     ·exact List.mem_append_right _ h
   have HSAME:=hid hsame;have HNEXT:=hid hnext;clear hsame hnext hbx hw1
   cases bx with
   | true=>
    have hs:=HSAME.out rfl;have HS:=hid hs;clear hs
    go_wp2_with (with_reducible refine wpList_load_row rfl 26 _ rfl wr.heap.size rfl 26 bl.toArray (0,0) _ HA1.out Try.underlying26 rfl HIA.out ?_)
    exact⟨⟨k + 1,N,lv',by omega,by rw [Int.natCast_add]; rfl,HP2,HF2,HS⟩,by simp only [RowKit.intOf]; omega⟩
   | false=>
    have hs:=HNEXT.out rfl;have HS:=hid hs;obtain⟨w3,hr3,hk3,hg3,hs3⟩:=HPUT.out _ HP2.out.known;have hP3:=HP2.out.more hg3 hk3;have hs2:=HS2.out;have hbr:=HBR.out;have hF3:=HF2.out.grown hg3 (by omega) (λk h=>by cases h; exact HP2.out.bm) (λk h=>.inl (by cases h; rfl))
    have hA3:=(hg3.block wr.heap.size (by omega) (λe=>by cases e; exact HP2.out.known.notCells HA2.out)).trans HA2.out
    have hb3:B<=w3.heap.size:=by omega
    obtain⟨lv2,w5,hr5,ho5,hg5⟩:=HAPP.out w3 lv' hP3.left hb3;obtain⟨zs1,ad2,g2,o2,c2,hlv2,zs2⟩:=ho5.hs;clear zs1 zs2;generalize (L ++ N ++ [x]).length = nn at hlv2;have hP4:=hP3.alloc (.cells bl.toArray 26)
    obtain⟨hl5,hP5⟩:=hP4.stored hg5 ho5;have hF5:=(((hF3.alloc hb3 (.cells bl.toArray 26)).grown hg5 (by simp; omega) (λk h=>(hP4.left.low k h).1) (λk h=>.inr (hP4.left.notMap k h)))).set (o:=0) hP5.bl lv2 (λes c=>by rw [hl5]; simp)
    rw [List.append_assoc] at hP5;rw [List.append_assoc] at hP5;subst hlv2;have e5:=cells_get (j:=0) hl5 rfl;have f5:=cells_free (cs:=[lv']) hl5 0;have e2:=cells_get (j:=0) HP2.out.kbox rfl;have e3:=cells_get (j:=0) hP3.lbox rfl;obtain⟨i0,z0,hi0,hz0,hzs0,hs0,hb0⟩:=hash_info;have hcs0:bl.toArray.size = i0.size:=by rw [List.size_toArray,hbl32,hs0]
    have HI0:=hid hi0;have HZ0:=hid hz0;have HS0:=hid hs0;have HCS0:=hid hcs0;have HA3:=hid hA3;have HR5:=hid hr5;have HP5:=hid hP5;have HF5:=hid hF5;clear hs hk3 hg3 hs3 hP3 hF3 hA3 hb3 hr5 ho5 hg5 hP4 hP5 hF5 hi0 hz0 hzs0 hs0 hb0 hcs0 hs2 hbr hl5
    go_wp2_with (first
     | (with_reducible refine wpList_load_row rfl 26 _ rfl wr.heap.size rfl 26 bl.toArray (0,0) _ HA1.out Try.underlying26 rfl HIA.out ?_)
     | (with_reducible refine wpList_load_row rfl 26 _ rfl wr.heap.size rfl 26 bl.toArray (0,0) _ HA2.out Try.underlying26 rfl HIA.out ?_)
     | (with_reducible refine wpList_load_row rfl 26 _ rfl wr.heap.size rfl 26 bl.toArray (0,0) _ HA3.out Try.underlying26 rfl HIA.out ?_)
     | (with_reducible refine wpList_build_one rfl _ 23 26 rfl i0 z0 Try.underlying23 HI0.out HZ0.out bl.toArray rfl HCS0.out (by rw [HS0.out]; decide) (by rw [HS0.out]; decide) ?_)
     | (with_reducible refine wpList_append_known rfl _ _ 23 23 23 rfl rfl lv' (.slice (some ⟨w3.heap.size,0,none⟩) 1 1) rfl rfl HR5.out ?_))
    exact⟨⟨k + 1,N ++ [x],.slice ad2 nn c2,by omega,by rw [Int.natCast_add]; rfl,HP5,HF5,HS⟩,by simp only [RowKit.intOf]; omega⟩
  ·obtain rfl:k = X.length:=by omega
   have hN2:=hN.out;rw [List.take_of_length_le (Nat.le_refl _)] at hN2;have HN2:=hid hN2;clear hN2;go_wp2
   go_end0
   exact⟨rfl,N,lv',hP.out,hF.out,HN2.out.1,HN2.out.2.1,HN2.out.2.2.1,HN2.out.2.2.2⟩
namespace Bk
def less (a b:List UInt8):Bool:=decide (compareBytes a b < 0)
def ahead (L:List (List UInt8))(h:List UInt8):List (List UInt8):=L.takeWhile λx=>less x h
def rest (L:List (List UInt8))(h:List UInt8):List (List UInt8):=L.dropWhile λx=>less x h
def put (L:List (List UInt8))(h:List UInt8):List (List UInt8):=ahead L h ++ [h] ++ (rest L h).filter λx=>!(x == h)
theorem ahead_rest (L:List (List UInt8))(h:List UInt8):ahead L h ++ rest L h = L:=List.takeWhile_append_dropWhile
theorem ahead_at:∀ (L:List (List UInt8)) (h:List UInt8) (k:Nat),k<=L.length->(∀ j (hj:j < L.length),j < k->less L[j] h = true)->(∀ hk:k < L.length,less L[k] h = false)->L.take k = ahead L h/\L.drop k = rest L h
 | [],h,k,hk,_,_=>by
  obtain rfl:k = 0:=by simpa using hk
  exact⟨rfl,rfl⟩
 | x :: L,h,0,_,_,h2=>by
  have hx:less x h = false:=h2 (by simp)
  simp [ahead,rest,hx]
 | x :: L,h,k + 1,hk,h1,h2=>by
  have hx:less x h = true:=h1 0 (by simp) (by omega)
  obtain⟨a,b⟩:=ahead_at L h k (by simpa using hk) (λj hj hjk=>h1 (j + 1) (by simpa using hj) (by omega)) (λhk2=>h2 (by simpa using hk2))
  simp [ahead,rest,hx] at a b |-;exact⟨a,b⟩
theorem less_irrefl (a:List UInt8):less a a = false:=by
 have:=(cb_zero a a).2 rfl;simp [less,this]
theorem less_anti {a b:List UInt8}(h:less a b = true):less b a = false:=by
 have h1:=cb_anti a b;simp only [less,decide_eq_true_eq,decide_eq_false_iff_not] at h |-
 omega
theorem less_trans {a b c:List UInt8}(h:less a b = true)(k:less b c = true):less a c = true:=by
 simp only [less,decide_eq_true_eq] at h k |-;have h1:=cb_trans a b c (by omega) (by omega)
 have h2:=cb_zero a c
 rcases Int.lt_or_eq_of_le h1 with h3 | h3
 ·exact h3
 ·have:=h2.1 h3
  subst this;have h4:=cb_anti a b
  omega
theorem less_total {a b:List UInt8}(h:less a b = false)(hne:a≠b):less b a = true:=by
 have h1:=cb_anti a b;have h2:=cb_zero a b;simp only [less,decide_eq_true_eq,decide_eq_false_iff_not] at h |-
 rcases Int.lt_trichotomy (compareBytes a b) 0 with h3 | h3 | h3
 ·omega
 ·exact absurd (h2.1 h3) hne
 ·omega
def Rising (L:List (List UInt8)):Prop:=L.Pairwise λa b=>less a b = true
theorem Rising.nil:Rising []:=List.Pairwise.nil
theorem mem_put (L:List (List UInt8))(h x:List UInt8):x∈put L h↔x = h\/x∈L:=by
 have e:=ahead_rest L h;simp only [put,List.mem_append,List.mem_singleton,List.mem_filter]
 constructor
 ·rintro ((h1 | h1) | ⟨h1,_⟩)
  ·exact .inr (by rw [<- e]; exact List.mem_append_left _ h1)
  ·exact .inl h1
  ·exact .inr (by rw [<- e]; exact List.mem_append_right _ h1)
 ·rintro (h1 | h1)
  ·exact .inl (.inr h1)
  ·rw [<- e] at h1
   rcases List.mem_append.1 h1 with h2 | h2
   ·exact .inl (.inl h2)
   ·by_cases hx:x = h
    ·exact .inl (.inr hx)
    ·exact .inr ⟨h2,by simpa using hx⟩
theorem ahead_less (L:List (List UInt8))(h x:List UInt8)(hx:x∈ahead L h):less x h = true:=by
 induction L with
 | nil=>simp [ahead] at hx
 | cons y L ih=>
  unfold ahead at hx ih;rw [List.takeWhile_cons] at hx
  split at hx
  ·rename_i hy
   rcases List.mem_cons.1 hx with h1 | h1
   ·rw [h1]
    exact hy
   ·exact ih h1
  ·cases hx
theorem rest_not:∀ (L:List (List UInt8)) (h:List UInt8),Rising L->∀ x∈rest L h,less x h = false
 | [],_,_,x,hx=>by simp [rest] at hx
 | y :: L,h,hr,x,hx=>by
  have hr2:=List.pairwise_cons.1 hr;unfold rest at hx;rw [List.dropWhile_cons] at hx
  split at hx
  ·exact rest_not L h hr2.2 x hx
  ·rename_i hy
   have hy2:less y h = false:=by simpa using hy
   rcases List.mem_cons.1 hx with h1 | h1
   ·rw [h1,hy2]
   ·have h2:=hr2.1 x h1
    cases hxh:less x h with
    | false=>rfl
    | true=>
     have:=less_trans h2 hxh;rw [hy2] at this
     cases this
theorem rising_put (L:List (List UInt8))(h:List UInt8)(hr:Rising L):Rising (put L h):=by
 have e:=ahead_rest L h;have hr2:Rising (ahead L h ++ rest L h):=by rw [e]; exact hr
 obtain⟨h1,h2,h3⟩:=List.pairwise_append.1 hr2;have hn:=rest_not L h hr;unfold put Rising;rw [List.append_assoc];refine List.pairwise_append.2 ⟨h1,?_,?_⟩
 ·rw [List.singleton_append]
  refine List.pairwise_cons.2 ⟨λx hx=>?_,h2.filter _⟩
  obtain⟨hx1,hx2⟩:=List.mem_filter.1 hx;exact less_total (hn x hx1) (by simpa using hx2)
 ·intro a ha b hb
  rcases List.mem_append.1 hb with h4 | h4
  ·rw [List.mem_singleton] at h4
   rw [h4];exact ahead_less L h a ha
  ·exact h3 a ha b (List.mem_filter.1 h4).1
theorem rising_ext:∀ (L M:List (List UInt8)),Rising L->Rising M->(∀ x,x∈L↔x∈M)->L = M
 | [],[],_,_,_=>rfl
 | [],y :: M,_,_,h=>absurd ((h y).2 (by simp)) (by simp)
 | x :: L,[],_,_,h=>absurd ((h x).1 (by simp)) (by simp)
 | x :: L,y :: M,hl,hm,h=>by
  obtain⟨l1,l2⟩:=List.pairwise_cons.1 hl;obtain⟨m1,m2⟩:=List.pairwise_cons.1 hm
  have hxy:x = y:=by
   rcases List.mem_cons.1 ((h x).1 (by simp)) with h1 | h1
   ·exact h1
   ·rcases List.mem_cons.1 ((h y).2 (by simp)) with h2 | h2
    ·exact h2.symm
    ·have a:=m1 x h1
     have b:=l1 y h2;rw [less_anti a] at b
     cases b
  subst hxy
  congr 1
  refine rising_ext L M l2 m2 λz=>?_
  constructor
  ·intro hz
   rcases List.mem_cons.1 ((h z).1 (by simp [hz])) with h1 | h1
   ·subst h1
    have:=l1 z hz;rw [less_irrefl] at this
    cases this
   ·exact h1
  ·intro hz
   rcases List.mem_cons.1 ((h z).2 (by simp [hz])) with h1 | h1
   ·subst h1
    have:=m1 z hz;rw [less_irrefl] at this
    cases this
   ·exact h1
inductive Cl (fs:List (List (List UInt8) × List (List UInt8))) (fr:List (List UInt8)):List UInt8->Prop
 | base (x:List UInt8):x∈fr->Cl fs fr x
 | fact (f:List (List UInt8) × List (List UInt8)) (o:List UInt8):f∈fs->(∀ x∈f.1,Cl fs fr x)->o∈f.2->Cl fs fr o
def Shut (fs:List (List (List UInt8) × List (List UInt8)))(L:List (List UInt8)):Prop:=∀ f∈fs,(∀ x∈f.1,x∈L)->∀ o∈f.2,o∈L
structure Is (fs:List (List (List UInt8) × List (List UInt8))) (fr L:List (List UInt8)):Prop where
 rising:Rising L
 mem:∀ x,x∈L↔Cl fs fr x
theorem Is.one {fs:List (List (List UInt8) × List (List UInt8))}{fr L M:List (List UInt8)}(h:Is fs fr L)(k:Is fs fr M):L = M:=
 rising_ext L M h.rising k.rising λx=>(h.mem x).trans (k.mem x).symm
theorem cl_of_shut {fs:List (List (List UInt8) × List (List UInt8))}{fr L:List (List UInt8)}(h0:∀ x∈fr,x∈L)(hs:Shut fs L):∀ x,Cl fs fr x->x∈L:=λx hx=>by
 induction hx with
 | base x h=>exact h0 x h
 | fact f o hf _ ho ih=>exact hs f hf ih o ho
theorem is_of {fs:List (List (List UInt8) × List (List UInt8))}{fr L:List (List UInt8)}(hr:Rising L)(h0:∀ x∈fr,x∈L)(h1:∀ x∈L,Cl fs fr x)(hs:Shut fs L):Is fs fr L:=
 ⟨hr,λx=>⟨h1 x,cl_of_shut h0 hs x⟩⟩
end Bk
end Go.Proofs.Ytanfnafiofkihaa
namespace Go.Proofs.Ytanfnafiofkihaa
open Go.RowKit
open Go.Lib (hid)
theorem Own.mono {w:World}{base base':Nat}{v:Value}{M:List (List UInt8)}(h:Own w base v M)(hb:base'<=base):Own w base' v M:=by
 obtain⟨h1,h2,h3⟩:=h;refine⟨h1,h2,?_⟩
 rcases h3 with h | ⟨g,cap,cur,a,b,c⟩
 ·exact .inl h
 ·exact .inr ⟨g,cap,cur,a,Nat.le_trans hb b,c⟩
theorem put_calls (L:List (List UInt8))(h:List UInt8)(hh:h.length = 32)(v:Value)(w:World)(hL:Hs w v L)(hn:L.length < 536870912):
  Calls Try.prog 51 #[v,.agg (bcells h).toArray] w λe w'=>∃ u,e = .returned u/\Own w' w.heap.size u (Bk.put L h)/\Kept w.heap.size w.heap.size w w':=by
 obtain⟨h32,ad,g,o,c,rfl,hcell⟩:=hL;have hcs:(bcells h).toArray.size = 32:=by rw [List.size_toArray,bcells_length,hh]
 have hcl:(bcells h).length = 32:=by rw [bcells_length,hh]
 have heq:=λ(w:World) (x:List UInt8) (hx:x.length = 32)=>book_equal38 w x h hx hh
 have hless:∀ (w:World) (x:List UInt8),x.length = 32->Calls Try.prog 80 #[.agg (bcells x).toArray,.agg (bcells h).toArray] w λe w'=>e = .returned (.bool (Bk.less x h))/\Kept w.heap.size w.heap.size w w':=λw x hx=>less_calls x h hx hh w
 obtain⟨hl,hhl⟩:∃ hl,hl = bcells h:=⟨_,rfl⟩;rw [<- hhl] at hcs hcl heq hless |-;have HHL:=hid hhl;have HE:=hid heq;have HL:=hid hless;have HC:=hid hcell;have H32:=hid h32;clear heq hcell h32 hless hhl
 go_enter Try.func51,Try.ntmps51
 go_upto_region 1 with fail
 have hA:(w.alloc (.cells hl.toArray 25)).heap[w.heap.size]? = some (.cells hl.toArray 25 (0,0)):=heap_new _ _
 have k1:Kept w.heap.size w.heap.size w (w.alloc (.cells hl.toArray 25)):=(Kept.refl _ _ _).alloc (Nat.le_refl _) _
 have s1:(w.alloc (.cells hl.toArray 25)).heap.size = w.heap.size + 1:=by simp
 generalize w.alloc (.cells hl.toArray 25) = w1 at hA k1 s1 |-
 obtain⟨wa,hwa⟩:∃ wa,wa = w.heap.size:=⟨_,rfl⟩;rw [<- hwa] at hA k1 s1 |-;have HWA:=hid hwa;have HA:=hid hA;have HK1:=hid k1;have HS1:=hid s1;have hia:(Try.prog.info? 25).map (·.size) = some hl.toArray.size:=by rw [bookInfo38,hcs]
 have HIA:=hid hia;have gd:=bookGuard38
 have hrows:∀ w',Kept w1.heap.size w1.heap.size w1 w'->∀ i (hi:i < L.length),ad = some ⟨g,o,none⟩/\g < w'.heap.size/\w'.rangeAt g (o + i * 32) (bcells L[i]):=λw' kk i hi=>by
  obtain⟨a1,a2,a3⟩:=HC.out i hi;exact⟨a1,by have:=kk.size; omega,rangeAt_kept kk (rangeAt_kept k1 a3 (by omega) (by omega)) (by omega) (by omega)⟩
 have hbox:∀ w',Kept w1.heap.size w1.heap.size w1 w'->w'.heap[wa]? = some (.cells hl.toArray 25 (0,0)):=λw' kk=>(kk.block wa (by omega) (by omega)).trans hA
 obtain⟨i0,z0,hi0,hz0,_,hs0,_⟩:=book_info;have HROWS:=hid hrows;have HBOX:=hid hbox;have HI0:=hid hi0;have HZ0:=hid hz0;have HS0:=hid hs0;clear hwa hA k1 s1 hia hrows hbox hi0 hz0 hs0 HC
 go_upto_block 0 with fail
 go_cut [5,6] (λu i wx=>∃ k:Nat,k<=L.length/\i = .int .i64 (k:Int)/\Hid (Own wx w1.heap.size u (L.take k))/\Hid (L.take k = Bk.ahead L h/\L.drop k = Bk.rest L h)/\Hid (Kept w1.heap.size w1.heap.size w1 wx))
 case first=>
  go_wp2_with fail
  go_loopw [5,6] (λu i w9=>∃ k:Nat,k<=L.length/\i = .int .i64 (k:Int)/\Hid (Own w9 w1.heap.size u (L.take k))/\Hid (∀ j (hj:j < L.length),j < k->Bk.less L[j] h = true)/\Hid (Kept w1.heap.size w1.heap.size w1 w9)) (λ_ i _=>L.length - (RowKit.intOf i).toNat)
  case atStart=>exact⟨0,by omega,rfl,hid (Own.nil _ _),hid λ_ _ h=>absurd h (Nat.not_lt_zero _),hid (Kept.refl _ _ _)⟩
  case round=>
   obtain⟨k,hk,rfl,hO,hless,hK⟩:=hrel
   by_cases hlt:k < L.length
   ·obtain⟨rfl,hgr,hgx⟩:=HROWS.out wr hK.out k hlt
    have hx32:=H32.out L[k] (List.getElem_mem hlt);have hln:(k:Int) < (L.length:Int):=by omega
    have hk0:¬ (k:Int) < 0:=by omega
    have hxl:(Try.prog.info? 25).map (·.size) = some (bcells L[k]).length:=by rw [bookInfo38,bcells_length,hx32]
    have htk:=List.take_succ_eq_append_getElem hlt;have hlk:=λw=>HL.out w L[k] hx32
    have hyes:Bk.less L[k] h = true->∀ j (hj:j < L.length),j < k + 1->Bk.less L[j] h = true:=λhy j hj hjk=>by
     rcases Nat.lt_or_ge j k with h1 | h1
     ·exact hless.out j hj h1
     ·obtain rfl:j = k:=by omega
      exact hy
    have hnot:Bk.less L[k] h = false->L.take k = Bk.ahead L h/\L.drop k = Bk.rest L h:=λhy=>Bk.ahead_at L h k hk hless.out (λ_=>hy)
    have hmid:=λw'=>mid_regrown (w:=wr) hgr hgx w'
    have harow:=λw'=>range_regrown (w:=wr) (HBOX.out wr hK.out) w'
    generalize L[k] = X at hx32 hgx hxl htk hlk hyes hnot hmid;have HM:=hid hmid;have HAR:=hid harow;have HXL:=hid hxl;have HTK:=hid htk;have HLK:=hid hlk;have Hyes:=hid hyes;have Hnot:=hid hnot;clear hmid harow hxl htk hlk hyes hnot
    go_upto_region 3 with fail
    refine wp_region_quiet_below (by kernel_rfl) (by kernel_rfl) ?_
    repeat
     first
      | (refine wpQuiet_load_row 25 _ rfl wa rfl hl.toArray _ HAR.out Try.underlying25 rfl HIA.out rfl ?_; go_simp)
      | (refine wpQuiet_load_at 25 _ rfl g (o + k * 32) rfl (bcells X) _ HM.out Try.underlying25 rfl HXL.out rfl ?_; go_simp)
      | (quiet_step (first | (go_at_call 80; exact kept_regrown HLK.out)))
    refine wpQuiet_nil ?_;intro p;have k2:=regrown_kept (w:=wr) ⟨p,rfl⟩;generalize Go.Sort.grow (redrawn wr p.d) p.os = w2 at k2 |-;generalize hbe:Bk.less X h = B
    cases B with
    | true=>
     have Hy2:=hid (Hyes.out hbe);clear hbe
     have hal:(w2.alloc (.cells (bcells X).toArray 25)).rangeAt w2.heap.size 0 (bcells X):=λj v hv=>by
      rw [Nat.zero_add];exact cells_get (heap_new w2 _) hv
     have hO2:=hO.out.kept k2 (Nat.le_refl _);have hK2:=hK.out.trans (k2.mono hK.out.size (λk hk _=>by have:=hK.out.size; omega))
     obtain⟨u',w5,hr5,ho5,hg5⟩:=append_digest (w2.alloc (.cells (bcells X).toArray 25)) w1.heap.size u5 _ (hO2.alloc _) (by have:=hK2.size; simp; omega) w2.heap.size 1 X hx32 hal (by rw [List.length_take]; omega)
     have hK5:Kept w1.heap.size w1.heap.size w1 w5:=(hK2.alloc hK2.size _).grown hg5 (by have:=hK2.size; simp; omega) (λk h=>(hO2.low k h).1)
     have hcs2:(bcells X).toArray.size = i0.size:=by rw [List.size_toArray,bcells_length,hx32,HS0.out]
     have HR:=hid (rangeAt_kept k2 hgx hgr (Nat.ne_of_lt hgr));have Hr5:=hid hr5;have Ho5:=hid ho5;have HK5:=hid hK5;have HCS:=hid hcs2;clear hr5 ho5 hg5 hK5 hcs2 hal hO2 hK2 hgx;have Ho6:Hid (Own w5 w1.heap.size u' (L.take (k + 1))):=hid (by rw [HTK.out]; exact Ho5.out)
     go_wp2_with (first
      | (with_reducible refine wpList_load_mid rfl 25 _ rfl g (o + k * 32) rfl (bcells X) _ HR.out Try.underlying25 rfl HXL.out ?_)
      | (with_reducible refine wpList_build_one rfl _ 33 25 rfl i0 z0 Try.underlying33 HI0.out HZ0.out (bcells X).toArray rfl HCS.out (by rw [HS0.out]; decide) (by rw [HS0.out]; decide) ?_)
      | (with_reducible refine wpList_append_known rfl _ _ 33 33 33 rfl rfl u5 (.slice (some ⟨w2.heap.size,0,none⟩) 1 1) rfl rfl Hr5.out ?_))
     exact⟨⟨k + 1,by omega,by rw [Int.natCast_add]; rfl,Ho6,Hy2,HK5⟩,by simp only [RowKit.intOf]; omega⟩
    | false=>
     have Hn2:=hid (Hnot.out hbe);have Ho2:=hid (hO.out.kept k2 (Nat.le_refl _));have Hk2:=hid (hK.out.trans (k2.mono hK.out.size (λk hk _=>by have:=hK.out.size; omega)))
     clear hbe;go_wp2
     go_meet
     exact⟨k,hk,rfl,Ho2,Hn2,Hk2⟩
   ·obtain rfl:k = L.length:=by omega
    have hn2:=Bk.ahead_at L h L.length (Nat.le_refl _) hless.out (λhk=>absurd hk (Nat.lt_irrefl _))
    have Hn2:=hid hn2;have hd:decide ((L.length:Int) < (L.length:Int)) = false:=decide_eq_false (by omega)
    clear hn2
    go_upto_region 3 with fail
    refine wp_region_quiet_below (by kernel_rfl) (by kernel_rfl) ?_
    repeat (quiet_step (fail))
    refine wpQuiet_nil ?_;rintro _ ⟨p,rfl⟩;have k2:=regrown_kept (w:=wr) ⟨p,rfl⟩;generalize Go.Sort.grow (redrawn wr p.d) p.os = w2 at k2 |-;have Ho2:=hid (hO.out.kept k2 (Nat.le_refl _));have Hk2:=hid (hK.out.trans (k2.mono hK.out.size (λk hk _=>by have:=hK.out.size; omega)))
    go_wp2
    go_meet
    exact⟨L.length,Nat.le_refl _,rfl,Ho2,Hn2,Hk2⟩
 case rest=>
  obtain⟨k,hk,rfl,hO,hab,hK⟩:=hcut;obtain⟨hAH,hRS⟩:=hab.out;have hh2:(bcells h).toArray = hl.toArray:=by rw [HHL.out]
  have hal:(wc.alloc (.cells hl.toArray 25)).rangeAt wc.heap.size 0 (bcells h):=λj v hv=>by
   rw [Nat.zero_add];rw [<- HHL.out] at hv;exact cells_get (heap_new wc _) hv
  obtain⟨u',w5,hr5,ho5,hg5⟩:=append_digest (wc.alloc (.cells hl.toArray 25)) w1.heap.size u5 (L.take k) (hO.out.alloc _) (by have:=hK.out.size; simp; omega) wc.heap.size 1 h hh hal (by rw [List.length_take]; omega)
  have hK5:Kept w1.heap.size w1.heap.size w1 w5:=(hK.out.alloc hK.out.size _).grown hg5 (by have:=hK.out.size; simp; omega) (λk h=>(hO.out.low k h).1)
  have hcs2:hl.toArray.size = i0.size:=by rw [hcs,HS0.out]
  have hbx:=HBOX.out wc hK.out;have Hr5:=hid hr5;have Ho5:=hid ho5;have HK5:=hid hK5;have HCS:=hid hcs2;have HBX:=hid hbx;have HAH:=hid hAH;have HRS:=hid hRS;clear hr5 ho5 hg5 hK5 hcs2 hal hbx hAH hRS hh2 hab hO
  go_wp2_with (first
   | (with_reducible refine wpList_load_row rfl 25 _ rfl wa rfl 25 hl.toArray (0,0) _ HBX.out Try.underlying25 rfl HIA.out ?_)
   | (with_reducible refine wpList_build_one rfl _ 33 25 rfl i0 z0 Try.underlying33 HI0.out HZ0.out hl.toArray rfl HCS.out (by rw [HS0.out]; decide) (by rw [HS0.out]; decide) ?_)
   | (with_reducible refine wpList_append_known rfl _ _ 33 33 33 rfl rfl u5 (.slice (some ⟨wc.heap.size,0,none⟩) 1 1) rfl rfl Hr5.out ?_))
  have hkr:k + (Bk.rest L h).length = L.length:=by rw [<- HRS.out,List.length_drop]; omega
  go_loopw [5,6] (λu i w9=>∃ m:Nat,k<=m/\m<=L.length/\i = .int .i64 (m:Int)/\Hid (Own w9 w1.heap.size u (L.take k ++ [h] ++ ((Bk.rest L h).take (m - k)).filter λx=>!(x == h)))/\Hid (Kept w1.heap.size w1.heap.size w1 w9)) (λ_ i _=>L.length - (RowKit.intOf i).toNat)
  case atStart=>exact⟨k,Nat.le_refl _,hk,rfl,hid (by simpa using Ho5.out),HK5⟩
  case round=>
   obtain⟨m,hkm,hm,rfl,hO,hK9⟩:=hrel;obtain⟨j,hjm⟩:∃ j,j = m - k:=⟨_,rfl⟩;rw [<- hjm] at hO;have HJM:=hid hjm;clear hjm
   have hlen:(L.take k ++ [h] ++ ((Bk.rest L h).take j).filter λx=>!(x == h)).length<=2 * L.length + 1:=by
    have h1:=List.length_filter_le (λx=>!(x == h)) ((Bk.rest L h).take j)
    rw [List.length_take] at h1;simp only [List.length_append,List.length_take,List.length_singleton]
    omega
   by_cases hlt:m < L.length
   ·obtain⟨rfl,hgr,hgx⟩:=HROWS.out wr hK9.out m hlt
    have hjr:j < (Bk.rest L h).length:=by have:=HJM.out; omega
    have hx32:=H32.out L[m] (List.getElem_mem hlt);have hln:(m:Int) < (L.length:Int):=by omega
    have hk0:¬ (m:Int) < 0:=by omega
    have hxl:(Try.prog.info? 25).map (·.size) = some (bcells L[m]).length:=by rw [bookInfo38,bcells_length,hx32]
    have hxr:(Bk.rest L h)[j] = L[m]:=by
     have:(Bk.rest L h)[j]? = L[m]?:=by rw [<- HRS.out,List.getElem?_drop,show k + j = m by have:=HJM.out; omega]
     rw [List.getElem?_eq_getElem hjr,List.getElem?_eq_getElem hlt] at this;exact Option.some.inj this
    have htk:=List.take_succ_eq_append_getElem hjr;rw [hxr] at htk;have heqk:=λw=>HE.out w L[m] hx32
    have hmid:=λw'=>mid_regrown (w:=wr) hgr hgx w'
    have harow:=λw'=>range_regrown (w:=wr) (HBOX.out wr hK9.out) w'
    generalize L[m] = X at hx32 hgx hxl htk heqk hmid;have HM:=hid hmid;have HAR:=hid harow;have HXL:=hid hxl;have HTK:=hid htk;clear hmid harow hxl htk hxr
    go_upto_region 8 with fail
    refine wp_region_quiet_below (by kernel_rfl) (by kernel_rfl) ?_
    repeat
     first
      | (refine wpQuiet_load_row 25 _ rfl wa rfl hl.toArray _ HAR.out Try.underlying25 rfl HIA.out rfl ?_; go_simp)
      | (refine wpQuiet_load_at 25 _ rfl g (o + m * 32) rfl (bcells X) _ HM.out Try.underlying25 rfl HXL.out rfl ?_; go_simp)
      | (quiet_step (fail))
    refine wpQuiet_nil ?_;intro p;have k2:=regrown_kept (w:=wr) ⟨p,rfl⟩;generalize Go.Sort.grow (redrawn wr p.d) p.os = w2 at k2 |-;clear heqk;generalize hbe:(X == h) = B
    cases B with
    | true=>
     have e:((Bk.rest L h).take (m + 1 - k)).filter (λx=>!(x == h)) = ((Bk.rest L h).take j).filter (λx=>!(x == h)):=by
      rw [show m + 1 - k = j + 1 by have:=HJM.out; omega,HTK.out,List.filter_append]
      simp [hbe]
     have Ho6:Hid (Own w2 w1.heap.size u5 (L.take k ++ [h] ++ ((Bk.rest L h).take (m + 1 - k)).filter (λx=>!(x == h)))):=hid (by rw [e]; exact hO.out.kept k2 (Nat.le_refl _))
     have HK6:=hid (hK9.out.trans (k2.mono hK9.out.size (λk hk _=>by have:=hK9.out.size; omega)))
     clear hbe e hlen hgx;go_wp2;exact⟨⟨m + 1,by omega,by omega,by rw [Int.natCast_add]; rfl,Ho6,HK6⟩,by simp only [RowKit.intOf]; omega⟩
    | false=>
     have hal:(w2.alloc (.cells (bcells X).toArray 25)).rangeAt w2.heap.size 0 (bcells X):=λj v hv=>by
      rw [Nat.zero_add];exact cells_get (heap_new w2 _) hv
     have hO2:=hO.out.kept k2 (Nat.le_refl _);have hK2:=hK9.out.trans (k2.mono hK9.out.size (λk hk _=>by have:=hK9.out.size; omega))
     obtain⟨u6,w6,hr6,ho6,hg6⟩:=append_digest (w2.alloc (.cells (bcells X).toArray 25)) w1.heap.size u5 _ (hO2.alloc _) (by have:=hK2.size; simp; omega) w2.heap.size 1 X hx32 hal (by omega)
     have hK6:Kept w1.heap.size w1.heap.size w1 w6:=(hK2.alloc hK2.size _).grown hg6 (by have:=hK2.size; simp; omega) (λk h=>(hO2.low k h).1)
     have hcs2:(bcells X).toArray.size = i0.size:=by rw [List.size_toArray,bcells_length,hx32,HS0.out]
     have e:L.take k ++ [h] ++ ((Bk.rest L h).take j).filter (λx=>!(x == h)) ++ [X] = L.take k ++ [h] ++ ((Bk.rest L h).take (m + 1 - k)).filter (λx=>!(x == h)):=by
      rw [show m + 1 - k = j + 1 by have:=HJM.out; omega,HTK.out,List.filter_append,List.append_assoc (L.take k ++ [h])]
      congr 2
      simp [hbe]
     rw [e] at ho6;have HR:=hid (rangeAt_kept k2 hgx hgr (Nat.ne_of_lt hgr));have Hr6:=hid hr6;have Ho6:=hid ho6;have HK6:=hid hK6;have HCS2:=hid hcs2;clear hr6 ho6 hg6 hK6 hcs2 hal hO2 hK2 hgx e hbe hlen
     go_wp2_with (first
      | (with_reducible refine wpList_load_mid rfl 25 _ rfl g (o + m * 32) rfl (bcells X) _ HR.out Try.underlying25 rfl HXL.out ?_)
      | (with_reducible refine wpList_build_one rfl _ 33 25 rfl i0 z0 Try.underlying33 HI0.out HZ0.out (bcells X).toArray rfl HCS2.out (by rw [HS0.out]; decide) (by rw [HS0.out]; decide) ?_)
      | (with_reducible refine wpList_append_known rfl _ _ 33 33 33 rfl rfl u5 (.slice (some ⟨w2.heap.size,0,none⟩) 1 1) rfl rfl Hr6.out ?_))
     exact⟨⟨m + 1,by omega,by omega,by rw [Int.natCast_add]; rfl,Ho6,HK6⟩,by simp only [RowKit.intOf]; omega⟩
   ·have hjl:j = (Bk.rest L h).length:=by have:=HJM.out; omega
    have ho:Own wr w1.heap.size u5 (Bk.put L h):=by
     have:=hO.out;rw [hjl,List.take_of_length_le (Nat.le_refl _),HAH.out] at this;exact this
    have e1:=HWA.out;have e2:=HS1.out;have Ho:=hid (ho.mono (base':=w.heap.size) (by omega))
    have hd:decide ((m:Int) < (L.length:Int)) = false:=decide_eq_false (by omega)
    have HKf:Hid (Kept w.heap.size w.heap.size w wr):=hid (by
     rw [<- e1]
     exact HK1.out.trans (hK9.out.mono (by omega) (λk hk _=>by omega)))
    clear hjl ho hlen e1 e2;go_wp2;go_ret;exact⟨_,rfl,Ho.out,HKf.out⟩
end Go.Proofs.Ytanfnafiofkihaa
namespace Go.Proofs.Ytanfnafiofkihaa
open Go.RowKit
def Whole (v:Value):Prop:=∀ n c,v = .slice none n c->n = 0/\c = 0
def Fs (w:World)(v:Value)(L:List (List (List UInt8) × List (List UInt8))):Prop:=
 ∃ ad g o c,v = .slice ad L.length c/\∀ i (hi:i < L.length),ad = some ⟨g,o,none⟩/\g < w.heap.size/\∃ a b,w.cell? ⟨g,o + i * 2,none⟩ = some a/\w.cell? ⟨g,o + i * 2 + 1,none⟩ = some b/\Hs w a L[i].1/\Hs w b L[i].2
theorem Fs.kept {w w':World}{v:Value}{L:List (List (List UInt8) × List (List UInt8))}(h:Fs w v L)(k:Kept w.heap.size w.heap.size w w'):Fs w' v L:=by
 obtain⟨ad,g,o,c,rfl,h1⟩:=h;refine⟨ad,g,o,c,rfl,λi hi=>?_⟩
 obtain⟨e,hg,a,b,h2,h3,h4,h5⟩:=h1 i hi;exact⟨e,Nat.lt_of_lt_of_le hg k.size,a,b,(k.cell (p:=⟨g,o + i * 2,none⟩) hg (Nat.ne_of_lt hg)).trans h2,(k.cell (p:=⟨g,o + i * 2 + 1,none⟩) hg (Nat.ne_of_lt hg)).trans h3,h4.kept k,h5.kept k⟩
namespace Bk
def outs (fs:List (List (List UInt8) × List (List UInt8))):List (List UInt8):=fs.flatMap λf=>f.2
def lack (U M:List (List UInt8)):Nat:=(U.filter λx=>!inList M x).length
theorem inList_iff (M:List (List UInt8))(x:List UInt8):inList M x = true↔x∈M:=by
 unfold inList;exact List.contains_iff_mem
theorem inList_not (M:List (List UInt8))(x:List UInt8):inList M x = false↔x∉M:=by
 rw [<- Bool.not_eq_true,inList_iff]
theorem lack_put_le (M:List (List UInt8))(h:List UInt8):∀ U,lack U (put M h)<=lack U M
 | []=>Nat.le_refl _
 | x :: U=>by
  have ih:=lack_put_le M h U;unfold lack at ih |-
  by_cases hx:x∈M
  ·have h1:inList M x = true:=(inList_iff M x).2 hx
   have h2:inList (put M h) x = true:=(inList_iff _ x).2 ((mem_put M h x).2 (.inr hx));simp only [List.filter_cons,h1,h2,Bool.not_true,Bool.false_eq_true,if_false];exact ih
  ·have h1:inList M x = false:=(inList_not M x).2 hx
   cases h2:inList (put M h) x with
   | true=>
    simp only [List.filter_cons,h1,h2,Bool.not_true,Bool.not_false,Bool.false_eq_true,if_false,if_true,List.length_cons]
    omega
   | false=>
    simp only [List.filter_cons,h1,h2,Bool.not_false,if_true,List.length_cons]
    omega
theorem lack_put_lt (M:List (List UInt8))(h:List UInt8)(hm:h∉M):∀ U,h∈U->lack U (put M h) < lack U M
 | [],hu=>by simp at hu
 | x :: U,hu=>by
  have ih:=lack_put_le M h U
  by_cases hx:x = h
  ·subst hx
   have h1:inList M x = false:=(inList_not M x).2 hm;have h2:inList (put M x) x = true:=(inList_iff _ x).2 ((mem_put M x x).2 (.inl rfl));unfold lack at ih |-;simp only [List.filter_cons,h1,h2,Bool.not_true,Bool.not_false,Bool.false_eq_true,if_false,if_true,List.length_cons]
   omega
  ·have hu2:h∈U:=by
    rcases List.mem_cons.1 hu with h3 | h3
    ·exact absurd h3.symm hx
    ·exact h3
   have ih2:=lack_put_lt M h hm U hu2;unfold lack at ih ih2 |-
   have h3:inList (put M h) x = inList M x:=by
    rw [Bool.eq_iff_iff,inList_iff,inList_iff,mem_put];exact⟨λh=>h.resolve_left hx,.inr⟩
   simp only [List.filter_cons,h3]
   cases inList M x <;> simp <;> omega
theorem put_length (M:List (List UInt8))(h:List UInt8):(put M h).length<=M.length + 1:=by
 have e:(ahead M h ++ rest M h).length = M.length:=by rw [ahead_rest]
 have h1:=List.length_filter_le (λx=>!(x == h)) (rest M h)
 rw [List.length_append] at e;simp only [put,List.length_append,List.length_singleton]
 omega
theorem lack_le (U M:List (List UInt8)):lack U M<=U.length:=List.length_filter_le _ _
theorem mem_outs {fs:List (List (List UInt8) × List (List UInt8))}{f:List (List UInt8) × List (List UInt8)}(hf:f∈fs){x:List UInt8}(hx:x∈f.2):x∈outs fs:=List.mem_flatMap.2 ⟨f,hf,hx⟩
structure Way (fs:List (List (List UInt8) × List (List UInt8))) (fr M:List (List UInt8)):Prop where
 rising:Rising M
 has:∀ x∈fr,x∈M
 cl:∀ x∈M,Cl fs fr x
 len:M.length + lack (outs fs) M<=fr.length + (outs fs).length
theorem Way.put {fs:List (List (List UInt8) × List (List UInt8))}{fr M:List (List UInt8)}(h:Way fs fr M){x:List UInt8}(hu:x∈outs fs)(hm:x∉M)(hc:Cl fs fr x):Way fs fr (put M x):=by
 refine⟨rising_put M x h.rising,λy hy=>(mem_put M x y).2 (.inr (h.has y hy)),λy hy=>?_,?_⟩
 ·rcases (mem_put M x y).1 hy with rfl | h1
  ·exact hc
  ·exact h.cl y h1
 ·have h1:=put_length M x
  have h2:=lack_put_lt M x hm (outs fs) hu;have h3:=h.len
  omega
def Pass (fs:List (List (List UInt8) × List (List UInt8)))(M0 M:List (List UInt8))(m:Bool)(i:Nat):Prop:=
 (m = false->M = M0/\∀ j (hj:j < fs.length),j < i->(∀ x∈fs[j].1,x∈M0)->∀ o∈fs[j].2,o∈M0)/\(m = true->lack (outs fs) M < lack (outs fs) M0)
theorem Pass.start (fs:List (List (List UInt8) × List (List UInt8)))(M:List (List UInt8)):Pass fs M M false 0:=⟨λ_=>⟨rfl,λ_ _ h=>absurd h (Nat.not_lt_zero _)⟩,λh=>by cases h⟩
theorem Pass.shut {fs:List (List (List UInt8) × List (List UInt8))}{M0 M:List (List UInt8)}(h:Pass fs M0 M false fs.length):M = M0/\Shut fs M0:=by
 obtain⟨h1,h2⟩:=h.1 rfl;refine⟨h1,λf hf hx o ho=>?_⟩
 obtain⟨j,hj,rfl⟩:=List.getElem_of_mem hf;exact h2 j hj hj hx o ho
theorem Pass.put {fs:List (List (List UInt8) × List (List UInt8))}{M0 M:List (List UInt8)}{m:Bool}{i:Nat}(h:Pass fs M0 M m i){x:List UInt8}(hu:x∈outs fs)(hm:x∉M):Pass fs M0 (put M x) true i:=by
 refine⟨(λh=>by cases h),λ_=>?_⟩
 have h1:=lack_put_lt M x hm (outs fs) hu
 cases m with
 | true=>have:=h.2 rfl; omega
 | false=>rw [<- (h.1 rfl).1]; exact h1
end Bk
end Go.Proofs.Ytanfnafiofkihaa
namespace Go.Proofs.Ytanfnafiofkihaa
open Go.RowKit Go.Lib
open List renaming setIfInBounds_toArray -> sA, set_cons_zero -> sB, set_cons_succ -> sC
open BigFrame renaming wpList_want -> wQ
def OwnB (w:World)(base:Nat)(X:Nat->Prop)(v:Value)(L:List (List (List UInt8) × List (List UInt8))):Prop:=
 ∃ ps:List (Value × Value),ps.length = L.length/\w.ownsRow base 122 2 v L.length (ps.flatMap λp=>[p.1,p.2])/\∀ i (hi:i < L.length) (hp:i < ps.length),OwnH w base ps[i].1 L[i].1/\OwnH w base ps[i].2 L[i].2/\(∀ k,ps[i].1.ownBlock = some k->¬ X k)/\∀ k,ps[i].2.ownBlock = some k->¬ X k
theorem OwnB.nil (w:World)(base:Nat)(X:Nat->Prop):OwnB w base X (.slice none 0 0) []:=⟨[],rfl,World.ownsRow_nil w base _ 2,λ_ hi=>absurd hi (Nat.not_lt_zero _)⟩
theorem pairs_at2:∀ (ps:List (Value × Value)) i (hi:i < ps.length),(ps.flatMap λp=>[p.1,p.2])[i * 2]? = some ps[i].1/\(ps.flatMap λp=>[p.1,p.2])[i * 2 + 1]? = some ps[i].2
 | [],i,hi=>absurd hi (Nat.not_lt_zero _)
 | p :: ps,0,_=>⟨rfl,rfl⟩
 | p :: ps,i + 1,hi=>by
  obtain⟨a,b⟩:=pairs_at2 ps i (by simpa using hi)
  rw [List.flatMap_cons]
  constructor
  ·rw [List.getElem?_append_right (by simp; omega)]
   simpa [show(i + 1) * 2 - 2 = i * 2 by omega] using a
  ·rw [List.getElem?_append_right (by simp; omega)]
   simpa [show(i + 1) * 2 + 1 - 2 = i * 2 + 1 by omega] using b
theorem OwnB.at {w:World}{base:Nat}{X:Nat->Prop}{v:Value}{L:List (List (List UInt8) × List (List UInt8))}(h:OwnB w base X v L):∃ ad g c,v = .slice ad L.length c/\∀ i (hi:i < L.length),ad = some ⟨g,0,none⟩/\base<=g/\g < w.heap.size/\∃ a b,w.cell? ⟨g,0 + i * 2,none⟩ = some a/\w.cell? ⟨g,0 + i * 2 + 1,none⟩ = some b/\OwnH w base a L[i].1/\OwnH w base b L[i].2:=by
 obtain⟨ps,hl,ho,hp⟩:=h;have hlt:=ho.lt;have h0:=ho
 rcases ho.2 with ⟨rfl,hn⟩ | ⟨g,cap,cur,rfl,hb,_⟩
 ·exact⟨none,0,0,by rw [hn],λi hi=>by omega⟩
 ·refine⟨some ⟨g,0,none⟩,g,cap,rfl,λi hi=>?_⟩
  have hip:i < ps.length:=by omega
  obtain⟨a,b⟩:=pairs_at2 ps i hip;obtain⟨c,d,_,_⟩:=hp i hi hip;have h1:=h0.cells (g:=g) rfl (i * 2) _ a;have h2:=h0.cells (g:=g) rfl (i * 2 + 1) _ b;rw [Addr.add_lit] at h1 h2;exact⟨rfl,(hlt g rfl).1,(hlt g rfl).2,ps[i].1,ps[i].2,h1,by rw [<- h2]; congr 2,c,d⟩
theorem OwnB.stayX {w w':World}{base:Nat}{X:Nat->Prop}{v:Value}{L:List (List (List UInt8) × List (List UInt8))}(h:OwnB w base X v L)(hf:∀ (k:Nat),v.ownBlock = some k->w'.heap[k]? = w.heap[k]?)(hs:∀ (k:Nat) (cs:Array Value) (fr:Nat × Nat),¬ X k->w.heap[k]? = some (Obj.cells cs 26 fr)->w'.heap[k]? = some (Obj.cells cs 26 fr)):OwnB w' base X v L:=by
 obtain⟨ps,hl,ho,hp⟩:=h;refine⟨ps,hl,⟨ho.1,?_⟩,λi hi hpi=>?_⟩
 ·rcases ho.2 with h1 | ⟨g,cap,cur,rfl,hb2,hh,rest⟩
  ·exact .inl h1
  ·exact .inr ⟨g,cap,cur,rfl,hb2,(hf g rfl).trans hh,rest⟩
 ·obtain⟨p,q,xp,xq⟩:=hp i hi hpi
  exact⟨p.stayAt (λk cs fr hk hh=>hs k cs fr (xp k hk) hh),q.stayAt (λk cs fr hk hh=>hs k cs fr (xq k hk) hh),xp,xq⟩
theorem OwnB.stay {w w':World}{base:Nat}{X:Nat->Prop}{v:Value}{L:List (List (List UInt8) × List (List UInt8))}(h:OwnB w base X v L)(hf:∀ (k:Nat),v.ownBlock = some k->w'.heap[k]? = w.heap[k]?)(hs:∀ (k:Nat) (cs:Array Value) (fr:Nat × Nat),w.heap[k]? = some (Obj.cells cs 26 fr)->w'.heap[k]? = some (Obj.cells cs 26 fr)):OwnB w' base X v L:=
 h.stayX hf λk cs fr _ hh=>hs k cs fr hh
theorem OwnB.fresh {w:World}{base:Nat}{X Y:Nat->Prop}{v:Value}{L:List (List (List UInt8) × List (List UInt8))}(h:OwnB w base X v L)(hY:∀ k,Y k->w.heap.size<=k):OwnB w base Y v L:=by
 obtain⟨ps,hl,ho,hp⟩:=h;refine⟨ps,hl,ho,λi hi hpi=>?_⟩
 obtain⟨p,q,_,_⟩:=hp i hi hpi;exact⟨p,q,λk hk hy=>absurd (p.low k hk).2 (Nat.not_lt.2 (hY k hy)),λk hk hy=>absurd (q.low k hk).2 (Nat.not_lt.2 (hY k hy))⟩
inductive Ow where
 | al (h:List UInt8)
 | ne (h:List UInt8)
 | fr
structure BokS where
 fv:Value
 frv:Value
 am:Nat
 nm:Nat
 mm:Nat
 fa:Lit->Option Value
 fn:Lit->Option Value
 L:Ow->List Nat
 X:Nat->Prop
def BokS.val (S:BokS):Ow->Value
 | .al h=>(S.fa (.string h)).getD (.slice none 0 0)
 | .ne h=>(S.fn (.string h)).getD (.slice none 0 0)
 | .fr=>S.frv
def dig (f:List (List UInt8) × List (List UInt8)):List UInt8:=Sm.sum (f.1.flatten ++ f.2.flatten)
def needs (fs:List (List (List UInt8) × List (List UInt8)))(h:List UInt8)(i:Nat):Nat:=match fs[i]? with | some f=>f.1.count h | none=>0
structure Bok (w:World) (base bb:Nat) (fs:List (List (List UInt8) × List (List UInt8))) (b:Nat) (nmf:Lit->Option Value) (S:BokS):Prop where
 cells:w.heap[bb]? = some (.cells #[S.fv,.map (some S.am),.map (some S.nm),S.frv,.map (some S.mm)] 85 (0,0))
 lowb:base<=bb
 lowa:base<=S.am
 lown:base<=S.nm
 lowm:base<=S.mm
 an:S.am≠S.nm
 amm:S.am≠S.mm
 nmm:S.nm≠S.mm
 facts:OwnB w base S.X S.fv fs
 alike:Mp w 26 S.am b S.fa
 need:Mp w 26 S.nm b S.fn
 names:Mp w 9 S.mm b nmf
 row:∀ o,OwnI w base (S.val o) (S.L o)
 sep:∀ o o',o≠o'->∀ k,(S.val o).ownBlock = some k->(S.val o').ownBlock≠some k
 free:∀ i,i∈S.L .fr↔∃ f,fs[i]? = some f/\f.1 = []
 needed:∀ h i,(S.L (.ne h)).count i = needs fs h i
 same:∀ h,∀ i∈S.L (.al h),i < fs.length
 found:∀ i (hi:i < fs.length),i∈S.L (.al (dig fs[i]))
 few:∀ o,(S.L o).length<=b
theorem OwnI.notMap {w:World}{B:Nat}{v:Value}{l:List Nat}(h:OwnI w B v l)(k:Nat)(hk:v.ownBlock = some k):∀ es c,w.heap[k]?≠some (.map es c):=by
 rcases h.2 with ⟨rfl,_⟩ | ⟨g,cap,cur,rfl,_,hh,_⟩
 ·simp [Value.ownBlock] at hk
 ·simp [Value.ownBlock] at hk
  subst hk;intro es c;rw [hh];simp
theorem OwnI.cellsAt {w:World}{B:Nat}{v:Value}{l:List Nat}(h:OwnI w B v l)(k:Nat)(hk:v.ownBlock = some k):∃ cs,w.heap[k]? = some (.cells cs 3 (0,0)):=by
 rcases h.2 with ⟨rfl,_⟩ | ⟨g,cap,cur,rfl,_,hh,_⟩
 ·simp [Value.ownBlock] at hk
 ·simp [Value.ownBlock] at hk
  subst hk;exact⟨cur,hh⟩
theorem Mp.map {w:World}{k:TypeId}{b n:Nat}{f:Lit->Option Value}(h:Mp w k b n f):∃ es c,w.heap[b]? = some (.map es c):=by
 obtain⟨D,⟨es,clock,h0,_⟩,_⟩:=h;exact⟨es,clock,h0⟩
theorem Bok.kept {w w':World}{base bb b:Nat}{fs:List (List (List UInt8) × List (List UInt8))}{nmf:Lit->Option Value}{S:BokS}(h:Bok w base bb fs b nmf S)(k:Kept w.heap.size w.heap.size w w'):Bok w' base bb fs b nmf S:=by
 have hk:∀ i,i < w.heap.size->w'.heap[i]? = w.heap[i]?:=λi hi=>k.block i hi (Nat.ne_of_lt hi)
 refine⟨(hk bb (lt_of_block h.cells)).trans h.cells,h.lowb,h.lowa,h.lown,h.lowm,h.an,h.amm,h.nmm,?_,h.alike.same (hk _ h.alike.lt),h.need.same (hk _ h.need.lt),h.names.same (hk _ h.names.lt),λo=>(h.row o).stay λi hi=>?_,h.sep,h.free,h.needed,h.same,h.found,h.few⟩
 ·refine h.facts.stay (λi hi=>?_) (λi cs fr hh=>?_)
  ·obtain⟨ps,_,ho,_⟩:=h.facts
   exact hk i (ho.lt i hi).2
  ·exact(hk i (lt_of_block hh)).trans hh
 ·exact hk i ((h.row o).lt i hi).2
theorem Bok.fresh {w:World}{base bb b:Nat}{fs:List (List (List UInt8) × List (List UInt8))}{nmf:Lit->Option Value}{S:BokS}(h:Bok w base bb fs b nmf S)(Y:Nat->Prop)(hY:∀ k,Y k->w.heap.size<=k):Bok w base bb fs b nmf { S with X:=Y }:=
 ⟨h.cells,h.lowb,h.lowa,h.lown,h.lowm,h.an,h.amm,h.nmm,h.facts.fresh hY,h.alike,h.need,h.names,h.row,h.sep,h.free,h.needed,h.same,h.found,h.few⟩
theorem Bok.put {w:World}{base bb b:Nat}{fs:List (List (List UInt8) × List (List UInt8))}{nmf:Lit->Option Value}{S:BokS}(h:Bok w base bb fs b nmf S)(g:Nat)(hg:S.X g)(old cs:Array Value)(fr:Nat × Nat)(hold:w.heap[g]? = some (.cells old 26 fr)):Bok (w.setRow g cs) base bb fs b nmf S:=by
 have hk:∀ i,i≠g->(w.setRow g cs).heap[i]? = w.heap[i]?:=λi hi=>setRow_other w g i cs hi
 have hmap:∀ m es c,w.heap[m]? = some (.map es c)->m≠g:=λm es c hm e=>by
  subst e;rw [hold] at hm
  cases hm
 have hbb:bb≠g:=λe=>by
  have h1:=h.cells;rw [e,hold] at h1;exact absurd h1 (by simp)
 refine⟨(hk bb hbb).trans h.cells,h.lowb,h.lowa,h.lown,h.lowm,h.an,h.amm,h.nmm,?_,?_,?_,?_,λo=>(h.row o).stay λi hi=>?_,h.sep,h.free,h.needed,h.same,h.found,h.few⟩
 ·refine h.facts.stayX (λi hi=>?_) (λi cs' fr' hx hh=>?_)
  ·obtain⟨ps,_,ho,_⟩:=h.facts
   refine hk i (λe=>?_)
   rcases ho.2 with ⟨e1,_⟩ | ⟨g2,cap,cur,e1,_,hh,_⟩
   ·rw [e1] at hi
    simp [Value.ownBlock] at hi
   ·rw [e1] at hi
    simp [Value.ownBlock] at hi;subst hi;rw [e,hold] at hh;exact absurd hh (by simp)
  ·exact(hk i (λe=>hx (by rw [e]; exact hg))).trans hh
 ·obtain⟨es,c,hm⟩:=h.alike.map
  exact h.alike.same (hk _ (hmap _ _ _ hm))
 ·obtain⟨es,c,hm⟩:=h.need.map
  exact h.need.same (hk _ (hmap _ _ _ hm))
 ·obtain⟨es,c,hm⟩:=h.names.map
  exact h.names.same (hk _ (hmap _ _ _ hm))
 ·obtain⟨cs',hh⟩:=(h.row o).cellsAt i hi
  refine hk i (λe=>?_)
  rw [e,hold] at hh;exact absurd hh (by simp)
namespace Bk
def cnt (Q:List UInt8->Bool)(f:List (List UInt8) × List (List UInt8)):Nat:=f.1.countP Q
theorem cnt_le (Q:List UInt8->Bool)(f:List (List UInt8) × List (List UInt8)):cnt Q f<=f.1.length:=List.countP_le_length
theorem cnt_all {Q:List UInt8->Bool}{f:List (List UInt8) × List (List UInt8)}:cnt Q f = f.1.length↔∀ x∈f.1,Q x = true:=List.countP_eq_length
theorem cnt_more {Q Q':List UInt8->Bool}{h:List UInt8}(hq:Q h = false)(hq':∀ x,Q' x = (Q x || x == h))(f:List (List UInt8) × List (List UInt8)):cnt Q' f = cnt Q f + f.1.count h:=by
 unfold cnt;generalize f.1 = l
 induction l with
 | nil=>rfl
 | cons x l ih=>
  rw [List.countP_cons,List.countP_cons,List.count_cons,ih,hq' x]
  by_cases hx:x = h
  ·subst hx
   rw [hq];simp
   omega
  ·have:(x == h) = false:=by simpa using hx
   rw [this]
   cases Q x <;> simp <;> omega
structure Run (fs:List (List (List UInt8) × List (List UInt8))) (fr K Lf:List (List UInt8)) (met:Nat->Nat):Prop where
 nd:K.Nodup
 cl:∀ x∈K,Cl fs fr x
 sub:∀ x∈Lf,x∈K
 ndl:Lf.Nodup
 has:∀ x∈fr,x∈K
 met:∀ (i:Nat) (f:List (List UInt8) × List (List UInt8)),fs[i]? = some f->met i = cnt (λx=>inList K x && !inList Lf x) f
 shut:∀ (i:Nat) (f:List (List UInt8) × List (List UInt8)),fs[i]? = some f->(∀ x∈f.1,x∈K/\x∉Lf)->∀ o∈f.2,o∈K
structure Mid (fs:List (List (List UInt8) × List (List UInt8))) (fr K Lf N:List (List UInt8)) (h:List UInt8) (J:List Nat) (t:Nat) (met:Nat->Nat):Prop where
 nd:(K ++ N).Nodup
 cl:∀ x∈K ++ N,Cl fs fr x
 met:∀ (i:Nat) (f:List (List UInt8) × List (List UInt8)),fs[i]? = some f->met i = cnt (λx=>inList K x && !inList Lf x) f + (J.take t).count i
 shut:∀ (i:Nat) (f:List (List UInt8) × List (List UInt8)),fs[i]? = some f->cnt (λx=>inList K x && !inList Lf x) f + (J.take t).count i = f.1.length->∀ o∈f.2,o∈K ++ N
theorem popped_iff (K Lf:List (List UInt8))(x:List UInt8):(inList K x && !inList Lf x) = true↔x∈K/\x∉Lf:=by
 rw [Bool.and_eq_true,inList_iff,Bool.not_eq_true',inList_not]
theorem Run.mid {fs:List (List (List UInt8) × List (List UInt8))}{fr K Lf:List (List UInt8)}{met:Nat->Nat}(r:Run fs fr K Lf met)(h:List UInt8)(J:List Nat):Mid fs fr K Lf [] h J 0 met:=by
 refine⟨by simpa using r.nd,by simpa using r.cl,λi f hf=>by simpa using r.met i f hf,λi f hf he o ho=>?_⟩
 rw [List.take_zero,List.count_nil,Nat.add_zero,cnt_all] at he;rw [List.append_nil];exact r.shut i f hf (λx hx=>(popped_iff K Lf x).1 (he x hx)) o ho
theorem Mid.step {fs:List (List (List UInt8) × List (List UInt8))}{fr K Lf N:List (List UInt8)}{h:List UInt8}{J:List Nat}{t:Nat}{met:Nat->Nat}(m:Mid fs fr K Lf N h J t met)(hlt:t < J.length)(met':Nat->Nat)(hm:met' J[t] = met J[t] + 1)(ho:∀ i,i≠J[t]->met' i = met i)
  (N':List (List UInt8)) (hn:(K ++ (N ++ N')).Nodup) (hc:∀ x∈N',Cl fs fr x) (hs:∀ f,fs[J[t]]? = some f->met J[t] + 1 = f.1.length->∀ o∈f.2,o∈K ++ (N ++ N')):Mid fs fr K Lf (N ++ N') h J (t + 1) met':=by
 have htk:∀ i,(J.take (t + 1)).count i = (J.take t).count i + if J[t] = i then 1 else 0:=λi=>by
  rw [List.take_succ_eq_append_getElem hlt,List.count_append,List.count_singleton]
  by_cases e:J[t] = i <;> simp [e]
 refine⟨hn,λx hx=>?_,λi f hf=>?_,λi f hf he o hof=>?_⟩
 ·rw [<- List.append_assoc] at hx
  rcases List.mem_append.1 hx with h | h
  ·exact m.cl x h
  ·exact hc x h
 ·rw [htk]
  by_cases e:J[t] = i
  ·subst e
   rw [hm,m.met _ f hf,if_pos rfl]
   omega
  ·rw [ho i (λh=>e h.symm),m.met i f hf,if_neg e]
   omega
 ·rw [htk] at he
  by_cases e:J[t] = i
  ·subst e
   rw [if_pos rfl] at he;exact hs f hf (by rw [m.met _ f hf]; omega) o hof
  ·rw [if_neg e] at he
   have:=m.shut i f hf (by omega) o hof
   rw [<- List.append_assoc];exact List.mem_append_left _ this
theorem Mid.all {fs:List (List (List UInt8) × List (List UInt8))}{fr K Lf N:List (List UInt8)}{h:List UInt8}{J:List Nat}{t:Nat}{met:Nat->Nat}(m:Mid fs fr K Lf N h J t met)(hlt:t < J.length)(hh:h∈K)(hl:h∈Lf)(hJ:∀ i,J.count i = needs fs h i){f:List (List UInt8) × List (List UInt8)}(hf:fs[J[t]]? = some f)(he:met J[t] + 1 = f.1.length):∀ x∈f.1,Cl fs fr x:=by
 have h1:(J.take (t + 1)).count J[t]<=J.count J[t]:=(List.take_sublist _ _).count_le _;rw [List.take_succ_eq_append_getElem hlt,List.count_append,List.count_singleton_self,hJ,needs,hf] at h1;have h2:=m.met _ f hf;have h1':(J.take t).count J[t] + 1<=f.1.count h:=h1
 have hq:(inList K h && !inList Lf h) = false:=by
  rw [(inList_iff Lf h).2 hl];simp
 have h3:=cnt_more (Q':=λx=>(inList K x && !inList Lf x) || x == h) hq (λ_=>rfl) f
 have h4:=cnt_le (λx=>(inList K x && !inList Lf x) || x == h) f
 have h5:cnt (λx=>(inList K x && !inList Lf x) || x == h) f = f.1.length:=by omega
 rw [cnt_all] at h5;intro x hx;have:=h5 x hx;rw [Bool.or_eq_true,popped_iff] at this
 rcases this with h6 | h6
 ·exact m.cl x (List.mem_append_left _ h6.1)
 ·rw [eq_of_beq h6]
  exact m.cl h (List.mem_append_left _ hh)
theorem Mid.run {fs:List (List (List UInt8) × List (List UInt8))}{fr K Lf N:List (List UInt8)}{h:List UInt8}{J:List Nat}{met met0:Nat->Nat}(r:Run fs fr K (Lf ++ [h]) met0)(m:Mid fs fr K (Lf ++ [h]) N h J J.length met)(hJ:∀ i,J.count i = needs fs h i):Run fs fr (K ++ N) (Lf ++ N) met:=by
 have hndl:=List.nodup_append.1 r.ndl;have hnd:=List.nodup_append.1 m.nd;have hhl:h∉Lf:=λhx=>hndl.2.2 h hx h (by simp) rfl
 have hhk:h∈K:=r.sub h (by simp)
 have hQ:∀ x,(inList (K ++ N) x && !inList (Lf ++ N) x) = ((inList K x && !inList (Lf ++ [h]) x) || x == h):=λx=>by
  rw [Bool.eq_iff_iff,popped_iff,Bool.or_eq_true,popped_iff,List.mem_append,List.mem_append,List.mem_append,List.mem_singleton,beq_iff_eq]
  constructor
  ·rintro ⟨h1 | h1,h2⟩
   ·by_cases hx:x = h
    ·exact .inr hx
    ·exact .inl ⟨h1,λh3=>h3.elim (λh4=>h2 (.inl h4)) hx⟩
   ·exact absurd (.inr h1) h2
  ·rintro (⟨h1,h2⟩ | rfl)
   ·exact⟨.inl h1,λh3=>h3.elim (λh4=>h2 (.inl h4)) (λh4=>hnd.2.2 x h1 x h4 rfl)⟩
   ·exact⟨.inl hhk,λh3=>h3.elim hhl (λh4=>hnd.2.2 x hhk x h4 rfl)⟩
 have hq:(inList K h && !inList (Lf ++ [h]) h) = false:=by
  rw [(inList_iff (Lf ++ [h]) h).2 (by simp)]
  simp
 have hcnt:∀ i f,fs[i]? = some f->cnt (λx=>inList (K ++ N) x && !inList (Lf ++ N) x) f = cnt (λx=>inList K x && !inList (Lf ++ [h]) x) f + (J.take J.length).count i:=λi f hf=>by
  rw [cnt_more (Q:=λx=>inList K x && !inList (Lf ++ [h]) x) hq hQ f,List.take_length,hJ,needs,hf]
 refine⟨m.nd,m.cl,λx hx=>?_,?_,λx hx=>List.mem_append_left _ (r.has x hx),λi f hf=>?_,λi f hf hx o ho=>?_⟩
 ·rcases List.mem_append.1 hx with h1 | h1
  ·exact List.mem_append_left _ (r.sub x (List.mem_append_left _ h1))
  ·exact List.mem_append_right _ h1
 ·rw [List.nodup_append]
  exact⟨hndl.1,hnd.2.1,λa ha b hb=>hnd.2.2 a (r.sub a (List.mem_append_left _ ha)) b hb⟩
 ·rw [m.met i f hf,hcnt i f hf]
 ·refine m.shut i f hf ?_ o ho
  rw [<- hcnt i f hf,cnt_all];exact λx h1=>(popped_iff _ _ x).2 (hx x h1)
theorem Run.done {fs:List (List (List UInt8) × List (List UInt8))}{fr K:List (List UInt8)}{met:Nat->Nat}(r:Run fs fr K [] met):∀ x,x∈K↔Cl fs fr x:=λx=>
 ⟨r.cl x,cl_of_shut r.has (λf hf hx o ho=>by
  obtain⟨i,hi,rfl⟩:=List.getElem_of_mem hf
  exact r.shut i _ (List.getElem?_eq_getElem hi) (λx h1=>⟨hx x h1,by simp⟩) o ho) x⟩
theorem cl_mem {fs:List (List (List UInt8) × List (List UInt8))}{fr:List (List UInt8)}{x:List UInt8}(h:Cl fs fr x):x∈fr ++ outs fs:=by
 cases h with
 | base x h=>exact List.mem_append_left _ h
 | fact f o hf _ ho=>exact List.mem_append_right _ (mem_outs hf ho)
theorem nodup_le:∀ (K M:List (List UInt8)),K.Nodup->(∀ x∈K,x∈M)->K.length<=M.length
 | [],_,_,_=>Nat.zero_le _
 | x :: K,M,hn,hs=>by
  obtain⟨h1,h2⟩:=List.nodup_cons.1 hn;have hm:=hs x (by simp)
  have ih:=nodup_le K (M.erase x) h2 (λy hy=>(List.mem_erase_of_ne (λe=>h1 (by rw [<- e]; exact hy))).2 (hs y (by simp [hy])))
  have hl:=List.length_erase_of_mem hm;have hp:=List.length_pos_of_mem hm;rw [List.length_cons]
  omega
end Bk
end Go.Proofs.Ytanfnafiofkihaa
namespace Go.Proofs.Ytanfnafiofkihaa
open Go
section
variable {P:Program} {o:Oper} {a:Act} {w w':World} {K:Act->World->Prop} {Q:Exit->Act->World->Prop}
theorem wp_append_run' (s x:Operand)(t t' ty:TypeId)(hty:o.type = ty)(ho:o.op = .call { callee:=.builtin .append,args:=#[s,x],argTypes:=#[t,t'] })(v y:Value){v':Value}(hs:a.eval s = v)(hx:a.eval x = y)(hr:(Builtin.append_ #[t,t'] ty #[v,y]).run P w = .ok v' w')(hk:K (a.put o.dst v') w'):o.wp P a w K Q:=by
 subst hty;unfold Oper.wp execOp;simp only [ho,resolve,invoke,builtin,Sem.run_bind,Sem.run_pure,Result.andThen_ok,List.map_toArray,List.map_cons,List.map_nil,hs,hx,hr];exact hk
theorem wp_entry_run (m x:Operand)(t:TypeId)(ho:o.op = .mapEntry t m x)(v y:Value){v':Value}(hs:a.eval m = v)(hx:a.eval x = y)(hr:(Instr.mapEntry t v y).run P w = .ok v' w')(hk:K (a.put o.dst v') w'):o.wp P a w K Q:=by
 unfold Oper.wp execOp;simp only [ho,Sem.run_bind,Sem.run_pure,Result.andThen_ok,hs,hx,hr];exact hk
theorem wp_lookup_run (m x:Operand)(t:TypeId)(ok:Bool)(ho:o.op = .lookup t m x ok)(v y:Value){v':Value}(hs:a.eval m = v)(hx:a.eval x = y)(hr:(Instr.lookup t v y ok).run P w = .ok v' w')(hk:K (a.put o.dst v') w'):o.wp P a w K Q:=by
 unfold Oper.wp execOp;simp only [ho,Sem.run_bind,Sem.run_pure,Result.andThen_ok,hs,hx,hr];exact hk
theorem wp_store_run (m x y:Operand)(t:TypeId)(ho:o.op = .entryStore t m x y)(v s u:Value)(hs:a.eval m = v)(hx:a.eval x = s)(hy:a.eval y = u)(hr:(Instr.entryStore t v s u).run P w = .ok () w')(hk:K (a.put o.dst undef) w'):o.wp P a w K Q:=by
 unfold Oper.wp execOp;simp only [ho,Sem.run_bind,Sem.run_pure,Result.andThen_ok,hs,hx,hy,hr];exact hk
end
theorem heldTakeAt {P:Program}{ops:Array Oper}{Q:Exit->Act->World->Prop}{md:Region.Mode}{S:World->Prop}{i:Nat}{oi:Oper}(d:Tmp)(v:Value){fuel:Nat}{listed:Array Bool}{tm:Array Value}{df:List Deferred}{w:World}(hi:ops[i]? = some oi)(hd:oi.dst = some d)
  (hs:Region.noSelect ops = true) (hf:Region.free md ops listed i = true) (hr:(Region.ready md ops listed).contains i = true)
  (hQ:∀ c a w,Q (.panic c) (a.put oi.dst v) w->Q (.panic c) a w) (hy:YieldsIf P ops S oi v ⟨tm,df⟩) (hS:S w)
  (h:wpAnyH P md ops Q S fuel (listed.setIfInBounds i true) ⟨tm.setIfInBounds d v,df⟩ w):wpAnyH P md ops Q S (fuel + 1) listed ⟨tm,df⟩ w:=
 wpAnyH_take hi hs hf hr hQ hy hS (by rw [hd]; exact h)
end Go.Proofs.Ytanfnafiofkihaa
namespace Go.Proofs.Ytanfnafiofkihaa
open Go.RowKit
theorem factInfoAll:(Try.prog.info? 35).map (λi=>(i.zero.map (·.cells.size),i.size)) = some (some 2,2):=by kernel_rfl
theorem fact_info:∃ i z,Try.prog.info? 35 = some i/\i.zero = some z/\z.cells.size = 2/\i.size = 2:=by
 have h:=factInfoAll
 cases hq:Try.prog.info? 35 with
 | none=>rw [hq] at h; cases h
 | some i=>
  rw [hq] at h;simp only [Option.map_some,Option.some.injEq,Prod.mk.injEq] at h
  cases hz:i.zero with
  | none=>rw [hz] at h; cases h.1
  | some z=>
   rw [hz] at h;simp only [Option.map_some,Option.some.injEq] at h;exact⟨i,z,rfl,hz,h.1,h.2⟩
theorem factBytes:(Try.prog.info? 35).map (·.bytes) = some 48:=by kernel_rfl
def OwnF (w:World)(base:Nat)(v:Value)(L:List (List (List UInt8) × List (List UInt8))):Prop:=
 ∃ ps:List (Value × Value),ps.length = L.length/\w.ownsRow base 35 2 v L.length (ps.flatMap λp=>[p.1,p.2])/\∀ i (hi:i < L.length) (hp:i < ps.length),Own w 0 ps[i].1 L[i].1/\Own w 0 ps[i].2 L[i].2
theorem pairs_at:∀ (ps:List (Value × Value)) i (hi:i < ps.length),(ps.flatMap λp=>[p.1,p.2])[i * 2]? = some ps[i].1/\(ps.flatMap λp=>[p.1,p.2])[i * 2 + 1]? = some ps[i].2
 | [],i,hi=>absurd hi (Nat.not_lt_zero _)
 | p :: ps,0,_=>⟨rfl,rfl⟩
 | p :: ps,i + 1,hi=>by
  obtain⟨a,b⟩:=pairs_at ps i (by simpa using hi)
  rw [List.flatMap_cons]
  constructor
  ·rw [List.getElem?_append_right (by simp; omega)]
   simpa [show(i + 1) * 2 - 2 = i * 2 by omega] using a
  ·rw [List.getElem?_append_right (by simp; omega)]
   simpa [show(i + 1) * 2 + 1 - 2 = i * 2 + 1 by omega] using b
theorem OwnF.nil (w:World)(base:Nat):OwnF w base (.slice none 0 0) []:=⟨[],rfl,World.ownsRow_nil w base _ 2,λ_ hi=>absurd hi (Nat.not_lt_zero _)⟩
theorem OwnF.fs {w:World}{base:Nat}{v:Value}{L:List (List (List UInt8) × List (List UInt8))}(h:OwnF w base v L):Fs w v L:=by
 obtain⟨ps,hl,ho,hp⟩:=h;have hlt:=ho.lt;have h0:=ho
 rcases ho.2 with ⟨rfl,hn⟩ | ⟨g,cap,cur,rfl,hb,_⟩
 ·obtain rfl:=List.length_eq_zero_iff.1 hn
  exact⟨none,0,0,0,rfl,λi hi=>absurd hi (Nat.not_lt_zero _)⟩
 ·refine⟨some ⟨g,0,none⟩,g,0,cap,rfl,λi hi=>?_⟩
  have hip:i < ps.length:=by omega
  obtain⟨a,b⟩:=pairs_at ps i hip;obtain⟨c,d⟩:=hp i hi hip;have h1:=h0.cells (g:=g) rfl (i * 2) _ a;have h2:=h0.cells (g:=g) rfl (i * 2 + 1) _ b;rw [Addr.add_lit] at h1 h2;exact⟨rfl,(hlt g rfl).2,ps[i].1,ps[i].2,h1,by rw [<- h2]; congr 2,c.hs,d.hs⟩
theorem Own.grownF {w w':World}{base fb n:Nat}{v f:Value}{M:List (List UInt8)}{xs:List Value}(h:Own w base v M)(hf:w.ownsRow fb 35 2 f n xs)(hg:w.grownBy w' f.ownBlock):Own w' base v M:=by
 refine⟨h.1,h.2.kept hg ?_⟩
 rcases h.2.2 with ⟨rfl,_⟩ | ⟨g,cap,cur,rfl,_,hh,_⟩
 ·exact .inl rfl
 ·refine .inr λe=>?_
  rcases hf.2 with ⟨rfl,_⟩ | ⟨g2,cap2,cur2,rfl,_,hh2,_⟩
  ·simp [Value.ownBlock] at e
  ·simp [Value.ownBlock] at e
   subst e;rw [hh] at hh2
   cases hh2
theorem OwnF.kept {w w':World}{base b:Nat}{v:Value}{L:List (List (List UInt8) × List (List UInt8))}(h:OwnF w base v L)(k:Kept w.heap.size b w w')(hb:w.heap.size<=b):OwnF w' base v L:=by
 obtain⟨ps,hl,ho,hp⟩:=h;refine⟨ps,hl,ho.kept (row:=none) ⟨k.os,k.tape,k.output,k.size,λi hi _=>k.block i hi (by omega)⟩ (by cases hv:v.ownBlock <;> simp),λi hi hpi=>?_⟩
 obtain⟨a,c⟩:=hp i hi hpi;exact⟨a.kept k hb,c.kept k hb⟩
theorem kept_regrown_at {P:Program}{f:FuncId}{args:Array Value}{w:World}{d:Nat}{os:Array Obj}{v:Value}
  (h:∀ w',Kept w.heap.size w.heap.size w w'->Calls P f args w' λe w''=>e = .returned v/\Kept w'.heap.size w'.heap.size w' w''):Calls P f args (Go.Sort.grow (redrawn w d) os) λe w''=>e = .returned v/\∃ p:Regrown,w'' = Go.Sort.grow (redrawn w p.d) p.os:=
 Calls.regrown_of ((h _ (regrown_kept ⟨⟨d,os⟩,rfl⟩)).mono λ_ _ ⟨he,hk⟩=>⟨he,hk.below (Nat.le_refl _) (Nat.le_refl _)⟩)
namespace Bk
def noted (L:List (List (List UInt8) × List (List UInt8)))(f:List (List UInt8) × List (List UInt8)):Bool:=L.any λg=>alikeB g.1 f.1 && alikeB g.2 f.2
theorem noted_yes {L:List (List (List UInt8) × List (List UInt8))}{f:List (List UInt8) × List (List UInt8)}(i:Nat)(hi:i < L.length)(h1:alikeB L[i].1 f.1 = true)(h2:alikeB L[i].2 f.2 = true):noted L f = true:=List.any_eq_true.2 ⟨L[i],List.getElem_mem hi,by rw [h1,h2]; rfl⟩
theorem noted_no {L:List (List (List UInt8) × List (List UInt8))}{f:List (List UInt8) × List (List UInt8)}(h:∀ i (hi:i < L.length),(alikeB L[i].1 f.1 && alikeB L[i].2 f.2) = false):noted L f = false:=by
 rw [<- Bool.not_eq_true,noted,List.any_eq_true];rintro ⟨g,hg,h2⟩;obtain⟨i,hi,rfl⟩:=List.getElem_of_mem hg;rw [h i hi] at h2
 cases h2
def note (L:List (List (List UInt8) × List (List UInt8)))(f:List (List UInt8) × List (List UInt8)):List (List (List UInt8) × List (List UInt8)):=if f.2.length = 0 then L else if noted L f then L else L ++ [f]
end Bk
def StayF (w w':World):Prop:=∀ (k:Nat) (o:Obj),w.heap[k]? = some o->(∀ cs fr,o≠.cells cs 35 fr)->w'.heap[k]? = some o
theorem StayF.ofKept {w w':World}(k:Kept w.heap.size w.heap.size w w'):StayF w w':=λ_ _ h _=>rk h k
theorem StayF.grown {w w1 w2:World}(h:StayF w w1){base:Nat}{v:Value}{L:List (List (List UInt8) × List (List UInt8))}(ho:OwnF w1 base v L)(hg:w1.grownBy w2 v.ownBlock):StayF w w2:=λi o hi hn=>by
 have h1:=h i o hi hn;rw [hg.block i (lt_of_block h1) (λe=>?_)]
 ·exact h1
 ·obtain⟨ps,_,ho,_⟩:=ho
  rcases ho.2 with ⟨rfl,_⟩ | ⟨g,cap,cur,rfl,_,hh,_⟩
  ·simp [Value.ownBlock] at e
  ·simp [Value.ownBlock] at e
   subst e;rw [h1] at hh
   cases hh
   exact hn _ _ rfl
theorem fold_setAt:∀ (l:List Value) (k:Nat) (acc:Array Value) (o:Nat),o + k + l.length<=acc.size->(l.zipIdx k).foldl (λcs (x:Value × Nat)=>cs.setIfInBounds (o + x.2) x.1) acc = (acc.toList.take (o + k) ++ l ++ acc.toList.drop (o + k + l.length)).toArray
 | [],k,acc,o,h=>by
  apply Array.ext';simp
 | v :: l,k,acc,o,h=>by
  rw [List.zipIdx_cons,List.foldl_cons,fold_setAt l (k + 1) _ o (by simp at h |-; omega)]
  apply Array.ext';simp only [Array.toList_setIfInBounds];have hk:o + k < acc.toList.length:=by simp at h |-; omega
  rw [show o + (k + 1) = o + k + 1 by omega,List.take_succ_eq_append_getElem (by rw [List.length_set]; exact hk),List.getElem_set_self,List.take_set_of_le (Nat.le_refl _),List.drop_set_of_lt (by omega)]
  simp only [List.append_assoc,List.cons_append,List.nil_append,List.length_cons]
  congr 4
  omega
theorem fold_at (cs old:Array Value)(o:Nat)(h:o + cs.size<=old.size):cs.zipIdx.foldl (λa (x:Value × Nat)=>a.setIfInBounds (o + x.2) x.1) old = (old.toList.take o ++ cs.toList ++ old.toList.drop (o + cs.size)).toArray:=by
 rw [<- Array.foldl_toList,Array.toList_zipIdx,fold_setAt cs.toList 0 old o (by simpa using h)]
 simp
theorem fill_step (place:Nat->Option (Nat × Nat))(cells:Array Value)(i:Nat)(cs:Array Value)(rest:List (Nat × Value))(off size:Nat)(hp:place i = some (off,size))(hs:cs.size = size)(ho:off + size<=cells.size):Instr.fill place cells ((i,.agg cs) :: rest) = Instr.fill place (cs.zipIdx.foldl (λa (x:Value × Nat)=>a.setIfInBounds (off + x.2) x.1) cells) rest:=by
 have h1:(Value.agg cs).cells.size = size:=hs;have h2:¬ (cells.size < off + size):=by omega
 rw [Instr.fill,hp];simp only [h1,ne_eq,not_true_eq_false,decide_false,Bool.false_or,gt_iff_lt,h2]
 rfl
theorem fill_two (size:Nat)(cs ds old:Array Value)(hc:cs.size = size)(hd:ds.size = size)(ho:old.size = 2 * size):Instr.fill (λi=>some (i * size,size)) old [(0,.agg cs),(1,.agg ds)] = some (cs ++ ds):=by
 have e1:=fold_at cs old (0 * size) (by omega)
 have l1:((old.toList.take (0 * size) ++ cs.toList ++ old.toList.drop (0 * size + cs.size)).toArray:Array Value).size = 2 * size:=by simp; omega
 have hx:(old.toList.take (0 * size) ++ cs.toList ++ old.toList.drop (0 * size + cs.size)) = cs.toList ++ old.toList.drop cs.size:=by simp
 have hfin:(((cs.toList ++ old.toList.drop cs.size).take (1 * size) ++ ds.toList ++ (cs.toList ++ old.toList.drop cs.size).drop (1 * size + ds.size)).toArray:Array Value) = cs ++ ds:=by
  apply Array.ext';rw [List.take_append_of_le_length (by simp; omega),List.take_of_length_le (by simp; omega),List.drop_of_length_le (by simp; omega)]
  simp
 rw [hx] at e1 l1;have e2:=fold_at ds (cs.toList ++ old.toList.drop cs.size).toArray (1 * size) (by rw [l1]; omega)
 rw [fill_step _ _ _ _ _ (0 * size) size rfl hc (by omega),e1,fill_step _ _ _ _ _ (1 * size) size rfl hd (by rw [l1]; omega),e2,hfin]
 rfl
theorem run_build_two {P:Program}(w:World)(t e:TypeId)(i:TypeInfo)(z:Value)(ht:P.underlying t = some (.slice e))(hi:P.info? e = some i)(hz:i.zero = some z)(cs ds:Array Value)(hs:cs.size = i.size)(hs2:ds.size = i.size)(hpos:0 < i.size)(hmax:2 * i.size<=16777216):
  (Instr.buildSlice t 2 #[(0,.agg cs),(1,.agg ds)]).run P w = .ok (.slice (some ⟨w.heap.size,0,none⟩) 2 2) (w.alloc (.cells (cs ++ ds) e)):=by
 have n0:¬ (2 * i.size = 0):=by omega
 have n1:¬ (16777216 < 2 * i.size):=by omega
 have hf:=λold ho=>fill_two i.size cs ds old hs hs2 ho
 simp only [Instr.buildSlice];simp [run_underlying ht,sizeOf,typeInfo,hi,zeroValue,hz,n1,newRow];rw [if_neg n0,hf _ (by simp)]
 rfl
theorem wpList_build_two_g {P:Program}{ops:Array Oper}{rest:List Oper}{o:Oper}{a:Act}{w:World}{Q:Exit->Act->World->Prop}(hw:Region.wanted o (yielded ops a.tmps) = true)(x y:Operand)(t e:TypeId)(ho:o.op = .buildSlice t 2 #[(0,x),(1,y)])(i:TypeInfo)(z:Value)(ht:P.underlying t = some (.slice e))(hi:P.info? e = some i)(hz:i.zero = some z)
  (cs ds:Array Value) (hx:a.eval x = .agg cs) (hy:a.eval y = .agg ds) (hs:cs.size = i.size) (hs2:ds.size = i.size) (hpos:0 < i.size) (hmax:2 * i.size<=16777216) (hk:wpList P ops Q rest (a.put o.dst (.slice (some ⟨w.heap.size,0,none⟩) 2 2)) (w.alloc (.cells (cs ++ ds) e))):wpList P ops Q (o :: rest) a w:=by
 refine wpList_step λK hK=>?_
 rw [if_pos hw];have hr:=run_build_two (P:=P) w t e i z ht hi hz cs ds hs hs2 hpos hmax;unfold Oper.wp execOp;simp only [ho,List.map_toArray,List.map_cons,List.map_nil,hx,hy,Sem.run_bind,hr,Result.andThen_ok,Sem.run_pure];exact hK _ _ hk
theorem wpList_build_one_g {P:Program}{ops:Array Oper}{rest:List Oper}{o:Oper}{a:Act}{w:World}{Q:Exit->Act->World->Prop}(hw:Region.wanted o (yielded ops a.tmps) = true)(x:Operand)(t e:TypeId)(ho:o.op = .buildSlice t 1 #[(0,x)])(i:TypeInfo)(z:Value)(ht:P.underlying t = some (.slice e))(hi:P.info? e = some i)(hz:i.zero = some z)
  (cs:Array Value) (hx:a.eval x = .agg cs) (hs:cs.size = i.size) (hpos:0 < i.size) (hmax:i.size<=16777216) (hk:wpList P ops Q rest (a.put o.dst (.slice (some ⟨w.heap.size,0,none⟩) 1 1)) (w.alloc (.cells cs e))):wpList P ops Q (o :: rest) a w:=by
 refine wpList_step λK hK=>?_
 rw [if_pos hw];have hr:=run_build_one (P:=P) w t e i z ht hi hz cs hs hpos hmax;unfold Oper.wp execOp;simp only [ho,List.map_toArray,List.map_cons,List.map_nil,hx,Sem.run_bind,hr,Result.andThen_ok,Sem.run_pure];exact hK _ _ hk
end Go.Proofs.Ytanfnafiofkihaa
namespace Go.Proofs.Ytanfnafiofkihaa
open Go.ChangeShapes Go.WideShapes Go.ChangeAt Go.RowKit Go.Deep
section
variable {H:Type} {enc:TypeId × Value->H} {P:Program} {w:World} {base:Nat} {spare:Nat->Bool} {held:Bool}
end
def FsW (w:World)(v:Value)(L:List (List (List UInt8) × List (List UInt8))):Prop:=
 ∃ ad g o c,v = .slice ad L.length c/\∀ i (hi:i < L.length),ad = some ⟨g,o,none⟩/\g < w.heap.size/\∃ a b,w.cell? ⟨g,o + i * 2,none⟩ = some a/\w.cell? ⟨g,o + i * 2 + 1,none⟩ = some b/\Hs w a L[i].1/\Hs w b L[i].2/\Whole a/\Whole b
theorem FsW.fs {w:World}{v:Value}{L:List (List (List UInt8) × List (List UInt8))}(h:FsW w v L):Fs w v L:=by
 obtain⟨ad,g,o,c,rfl,h1⟩:=h;refine⟨ad,g,o,c,rfl,λi hi=>?_⟩
 obtain⟨e,hg,a,b,h2,h3,h4,h5,_⟩:=h1 i hi;exact⟨e,hg,a,b,h2,h3,h4,h5⟩
theorem FsW.kept {w w':World}{v:Value}{L:List (List (List UInt8) × List (List UInt8))}(h:FsW w v L)(k:Kept w.heap.size w.heap.size w w'):FsW w' v L:=by
 obtain⟨ad,g,o,c,rfl,h1⟩:=h;refine⟨ad,g,o,c,rfl,λi hi=>?_⟩
 obtain⟨e,hg,a,b,h2,h3,h4,h5,h6⟩:=h1 i hi;exact⟨e,Nat.lt_of_lt_of_le hg k.size,a,b,(k.cell (p:=⟨g,o + i * 2,none⟩) hg (Nat.ne_of_lt hg)).trans h2,(k.cell (p:=⟨g,o + i * 2 + 1,none⟩) hg (Nat.ne_of_lt hg)).trans h3,h4.kept k,h5.kept k,h6⟩
end Go.Proofs.Ytanfnafiofkihaa
namespace Go.Proofs.Ytanfnafiofkihaa
open Go.RowKit Go.Lib
open List renaming setIfInBounds_toArray -> sA, set_cons_zero -> sB, set_cons_succ -> sC
open BigFrame renaming wpList_want -> wQ
def Few (l:List (List (List UInt8) × List (List UInt8))):Prop:=l.length<=60/\∀ f∈l,f.1.length<=60/\f.2.length<=60
def FewPost (l:List (List (List UInt8) × List (List UInt8)))(w:World)(e:Ending)(w':World):Prop:=∃ b:Bool,e = .returned (.bool b)/\(b = true->Few l)/\w' = w
end Go.Proofs.Ytanfnafiofkihaa
namespace Go.Proofs.Ytanfnafiofkihaa
open Go.RowKit
open Go.Lib (hid)
theorem all_take (p:List UInt8->Bool)(I:List (List UInt8))(k:Nat)(h:k < I.length):(I.take (k + 1)).all p = ((I.take k).all p && p I[k]):=by
 rw [List.take_succ_eq_append_getElem h,List.all_append];simp
theorem reffollows_calls (fs:List (List (List UInt8) × List (List UInt8)))(fr:List (List UInt8))(v u:Value)(w:World)(hF:Fs w v fs)(hR:Hs w u fr)(hb:fr.length + (Bk.outs fs).length < 100000000)(hfs:fs.length < 1000000)(hsz:∀ f∈fs,f.1.length < 1000000/\f.2.length < 1000000):
  Calls Try.prog 22 #[v,u] w λe w'=>∃ r M,e = .returned r/\Own w' w.heap.size r M/\Bk.Is fs fr M/\Kept w.heap.size w.heap.size w w':=by
 obtain⟨fad,fg,fo,fc,rfl,fcell⟩:=hF;obtain⟨r32,rad,rg,ro,rc,rfl,rcell⟩:=hR;have HF:=hid fcell;have HR:=hid rcell;have R32:=hid r32;have hfr:fr.length < 1073741824:=by omega
 have HB:=hid hb;have HSZ:=hid hsz;clear fcell rcell r32 hb hsz
 go_enter Try.func22,Try.ntmps22
 go_wp2_with fail
 go_loopw [5,6] (λs5 s6 w9=>∃ k:Nat,∃ M:List (List UInt8),k<=fr.length/\s6 = .int .i64 (k:Int)/\Hid (Own w9 w.heap.size s5 M)/\Hid (Bk.Rising M/\(∀ x∈fr.take k,x∈M)/\(∀ x∈M,x∈fr)/\M.length<=k)/\Hid (Kept w.heap.size w.heap.size w w9)) (λ_ s6 _=>fr.length - (RowKit.intOf s6).toNat)
 case atStart=>exact⟨0,[],by omega,rfl,hid (Own.nil _ _),hid ⟨Bk.Rising.nil,by simp,by simp,by simp⟩,hid (Kept.refl _ _ _)⟩
 case round=>
  obtain⟨k,M,hk,rfl,hO,hM,hK⟩:=hrel
  by_cases hlt:k < fr.length
  ·obtain⟨rfl,hg,hr⟩:=HR.out k hlt
   have hx32:=R32.out fr[k] (List.getElem_mem hlt);have hln:(k:Int) < (fr.length:Int):=by omega
   have hk0:¬ (k:Int) < 0:=by omega
   have hgx:wr.rangeAt rg (ro + k * 32) (bcells fr[k]):=rangeAt_kept hK.out hr hg (Nat.ne_of_lt hg);have hxl:(Try.prog.info? 25).map (·.size) = some (bcells fr[k]).length:=by rw [bookInfo38,bcells_length,hx32]
   have htk:=List.take_succ_eq_append_getElem hlt;have hmem:fr[k]∈fr:=List.getElem_mem hlt;generalize fr[k] = X at hx32 hgx hxl htk hmem;have hput:=put_calls M X hx32 u5 wr hO.out.hs (by have:=hM.out.2.2.2; have:=HB.out; omega)
   have HX:=hid hgx;have HXL:=hid hxl;have HPUT:=hid hput;have HTK:=hid htk;clear hgx hxl hput htk
   go_wp2_with (with_reducible refine wpList_load_mid rfl 25 _ rfl rg (ro + k * 32) rfl (bcells X) _ HX.out Try.underlying25 rfl HXL.out ?_)
   refine HPUT.out.mono ?_;rintro e w5 ⟨z5,rfl,ho5,k5⟩;have hs:=hK.out.size;have Ho5:=hid (ho5.mono hs);have HK5:=hid (hK.out.trans (k5.mono hs (λk hk _=>by omega)))
   have HM5:Hid (Bk.Rising (Bk.put M X)/\(∀ x∈fr.take (k + 1),x∈Bk.put M X)/\(∀ x∈Bk.put M X,x∈fr)/\(Bk.put M X).length<=k + 1):=hid (by
    obtain⟨m1,m2,m3,m4⟩:=hM.out;refine⟨Bk.rising_put M X m1,λx hx=>?_,λx hx=>?_,?_⟩
    ·rw [HTK.out] at hx
     rw [Bk.mem_put]
     rcases List.mem_append.1 hx with h | h
     ·exact .inr (m2 x h)
     ·rw [List.mem_singleton] at h
      exact .inl h
    ·rcases (Bk.mem_put M X x).1 hx with rfl | h
     ·exact hmem
     ·exact m3 x h
    ·have:=Bk.put_length M X
     omega)
   clear ho5 k5 hs;go_wp2;exact⟨⟨k + 1,_,by omega,by rw [Int.natCast_add]; rfl,Ho5,HM5,HK5⟩,by simp only [RowKit.intOf]; omega⟩
  ·obtain rfl:k = fr.length:=by omega
   have hw:Bk.Way fs fr M:=by
    obtain⟨m1,m2,m3,m4⟩:=hM.out;rw [List.take_of_length_le (Nat.le_refl _)] at m2;exact⟨m1,m2,λx hx=>.base x (m3 x hx),by have:=Bk.lack_le (Bk.outs fs) M; omega⟩
   have HW:=hid hw;clear hw hM
   go_wp2_with fail
   go_loopg [5,7,8,9,10,11] (2 * Bk.lack (Bk.outs fs) M + 1) (λgk s5 s7 s8 s9 s10 s11 w9=>∃ M:List (List UInt8),∃ m:Bool,s7 = .bool m/\2 * Bk.lack (Bk.outs fs) M + m.toNat<=gk/\Hid (Own w9 w.heap.size s5 M)/\Hid (Bk.Way fs fr M)/\Hid (m = false->Bk.Shut fs M)/\Hid (Kept w.heap.size w.heap.size w w9))
   case atStart=>exact⟨M,true,rfl,Nat.le_refl _,hO,HW,hid (λh=>by cases h),hK⟩
   case round=>
    obtain⟨M0,m0,rfl,hgk,hO0,hW0,hS0,hK0⟩:=hrel
    cases m0 with
    | false=>
     go_wp2;go_ret;exact⟨_,rfl,M0,hO0.out,Bk.is_of hW0.out.rising hW0.out.has hW0.out.cl (by simpa using hS0.out),hK0.out⟩
    | true=>
     go_wp2_with fail
     go_loopw [5,7,8,9,10,11] (λs5 s7 s8 s9 s10 s11 w9=>∃ i:Nat,∃ M:List (List UInt8),∃ m:Bool,i<=fs.length/\s8 = .int .i64 (i:Int)/\s7 = .bool m/\Hid (Own w9 w.heap.size s5 M)/\Hid (Bk.Way fs fr M)/\Hid (Bk.Pass fs M0 M m i)/\Hid (Kept w.heap.size w.heap.size w w9)) (λ_ _ s8 _ _ _ _=>fs.length - (RowKit.intOf s8).toNat)
     case atStart=>exact⟨0,M0,false,by omega,rfl,rfl,hO0,hW0,hid (Bk.Pass.start fs M0),hK0⟩
     case round=>
      obtain⟨i,M1,m1,hi,rfl,rfl,hO1,hW1,hP1,hK1⟩:=hrel
      by_cases hil:i < fs.length
      ·obtain⟨rfl,hg,a,b,hca,hcb,⟨a32,aad,ag,ao,ac,rfl,acell⟩,⟨b32,bad,bg,bo,bc,rfl,bcell⟩⟩:=HF.out i hil
       have hiln:(i:Int) < (fs.length:Int):=by omega
       have hi0:¬ (i:Int) < 0:=by omega
       have hfm:fs[i]∈fs:=List.getElem_mem hil;have hsz:=HSZ.out fs[i] hfm
       have hpass:∀ (M:List (List UInt8)) (m:Bool),Bk.Pass fs M0 M m i->(m = false->(∀ x∈fs[i].1,x∈M0)->∀ o∈fs[i].2,o∈M0)->Bk.Pass fs M0 M m (i + 1):=λM m hp hq=>⟨λhm=>⟨(hp.1 hm).1,λj hj hji hx o ho=>by
        rcases Nat.lt_or_ge j i with h | h
        ·exact(hp.1 hm).2 j hj h hx o ho
        ·obtain rfl:j = i:=by omega
         exact hq hm hx o ho⟩,hp.2⟩
       have hclo:∀ M,Bk.Way fs fr M->(∀ x∈fs[i].1,x∈M)->∀ o∈fs[i].2,Bk.Cl fs fr o:=λM hw hx o ho=>.fact fs[i] o hfm (λx h=>hw.cl x (hx x h)) ho
       have houts:∀ o∈fs[i].2,o∈Bk.outs fs:=λo ho=>Bk.mem_outs hfm ho
       have hcella:∀ w',Kept w.heap.size w.heap.size w w'->w'.cell? ⟨fg,fo + i * 2,none⟩ = some (.slice aad fs[i].1.length ac):=λw' kk=>(kk.cell (p:=⟨fg,fo + i * 2,none⟩) hg (Nat.ne_of_lt hg)).trans hca
       have hcellb:∀ w',Kept w.heap.size w.heap.size w w'->w'.cell? ⟨fg,fo + i * 2 + 1,none⟩ = some (.slice bad fs[i].2.length bc):=λw' kk=>(kk.cell (p:=⟨fg,fo + i * 2 + 1,none⟩) hg (Nat.ne_of_lt hg)).trans hcb
       have harow:∀ w',Kept w.heap.size w.heap.size w w'->∀ k (hk:k < fs[i].1.length),aad = some ⟨ag,ao,none⟩/\w'.rangeAt ag (ao + k * 32) (bcells fs[i].1[k]):=λw' kk k hk=>by
        obtain⟨e1,e2,e3⟩:=acell k hk;exact⟨e1,rangeAt_kept kk e3 e2 (Nat.ne_of_lt e2)⟩
       have hbrow:∀ w',Kept w.heap.size w.heap.size w w'->∀ k (hk:k < fs[i].2.length),bad = some ⟨bg,bo,none⟩/\w'.rangeAt bg (bo + k * 32) (bcells fs[i].2[k]):=λw' kk k hk=>by
        obtain⟨e1,e2,e3⟩:=bcell k hk;exact⟨e1,rangeAt_kept kk e3 e2 (Nat.ne_of_lt e2)⟩
       generalize fs[i] = f at *;obtain⟨I,U⟩:=f;obtain⟨hIl,hUl⟩:=hsz;simp only at *;have HPASS:=hid hpass;have HCLO:=hid hclo;have HOUTS:=hid houts;have HCA:=hid hcella;have HCB:=hid hcellb;have HAR:=hid harow;have HBR:=hid hbrow;have A32:=hid a32;have B32:=hid b32;clear hpass hclo houts hcella hcellb harow hbrow a32 b32 hca hcb acell bcell hfm
       go_wp2_with fail
       go_loopw [9,10] (λs9 s10 w9=>∃ k:Nat,k<=I.length/\s10 = .int .i64 (k:Int)/\s9 = .bool ((I.take k).all (inList M1))/\Hid (Own w9 w.heap.size u5 M1)/\Hid (Kept w.heap.size w.heap.size w w9)) (λ_ s10 _=>I.length - (RowKit.intOf s10).toNat)
       case atStart=>exact⟨0,by omega,rfl,rfl,hO1,hK1⟩
       case round=>
        obtain⟨k,hk,rfl,rfl,hO4,hK4⟩:=hrel;have hca:=HCA.out wr hK4.out
        by_cases hkl:k < I.length
        ·have hkln:(k:Int) < (I.length:Int):=by omega
         have hk0:¬ (k:Int) < 0:=by omega
         have hat:=all_take (inList M1) I k hkl;have hx32:=A32.out I[k] (List.getElem_mem hkl);obtain⟨rfl,hrx⟩:=HAR.out wr hK4.out k hkl;have hxl:(Try.prog.info? 25).map (·.size) = some (bcells I[k]).length:=by rw [bookInfo38,bcells_length,hx32]
         have hhas:=has_calls M1 I[k] hx32 u5 wr hO4.out.hs (by have:=hW1.out.len; have:=HB.out; omega)
         generalize I[k] = X at hat hx32 hrx hxl hhas;generalize inList M1 X = Bx at hat hhas;generalize (I.take k).all (inList M1) = A at hat |-;have HAT:=hid hat;have HRX:=hid hrx;have HXL:=hid hxl;have HHAS:=hid hhas;clear hat hrx hxl hhas
         cases A with
         | true=>
          have hat2:(I.take (k + 1)).all (inList M1) = Bx:=by rw [HAT.out,Bool.true_and]
          have HAT2:=hid hat2;clear hat2
          go_wp2_with (with_reducible refine wpList_load_at_g (by with_unfolding_all rfl) 25 _ rfl ag (ao + k * 32) rfl (bcells X) _ HRX.out Try.underlying25 rfl HXL.out ?_)
          refine HHAS.out.mono ?_;rintro e w5 ⟨rfl,k5⟩;have Ho5:=hid (hO4.out.kept k5 (Nat.le_refl _));have HK5:=hid (hK4.out.trans (k5.mono hK4.out.size (λk hk _=>by have:=hK4.out.size; omega)))
          clear k5;go_wp2;exact⟨⟨k + 1,by omega,by rw [Int.natCast_add]; rfl,by rw [HAT2.out],Ho5,HK5⟩,by simp only [RowKit.intOf]; omega⟩
         | false=>
          have hat2:(I.take (k + 1)).all (inList M1) = false:=by rw [HAT.out,Bool.false_and]
          have HAT2:=hid hat2;clear hat2;go_wp2;exact⟨⟨k + 1,by omega,by rw [Int.natCast_add]; rfl,by rw [HAT2.out],hO4,hK4⟩,by simp only [RowKit.intOf]; omega⟩
        ·obtain rfl:k = I.length:=by omega
         rw [List.take_of_length_le (Nat.le_refl _)]
         have hall:I.all (inList M1) = true↔∀ x∈I,x∈M1:=by
          rw [List.all_eq_true];exact⟨λh x hx=>(Bk.inList_iff M1 x).1 (h x hx),λh x hx=>(Bk.inList_iff M1 x).2 (h x hx)⟩
         generalize I.all (inList M1) = A at hall |-;have HALL:=hid hall;clear hall
         go_wp2_with fail
         go_loopw [5,7,11] (λs5 s7 s11 w9=>∃ k:Nat,∃ M2:List (List UInt8),∃ m2:Bool,k<=U.length/\s11 = .int .i64 (k:Int)/\s7 = .bool m2/\Hid (Own w9 w.heap.size s5 M2)/\Hid (Bk.Way fs fr M2)/\Hid (Bk.Pass fs M0 M2 m2 i)/\Hid ((∀ x∈M1,x∈M2)/\(A = true->∀ o∈U.take k,o∈M2)/\(A = false->M2 = M1/\m2 = m1))/\Hid (Kept w.heap.size w.heap.size w w9)) (λ_ _ s11 _=>U.length - (RowKit.intOf s11).toNat)
         case atStart=>exact⟨0,M1,m1,by omega,rfl,rfl,hO4,hW1,hP1,hid ⟨λ_ h=>h,(λ_=>by simp),λ_=>⟨rfl,rfl⟩⟩,hK4⟩
         case round=>
          obtain⟨k,M2,m2,hk2,rfl,rfl,hO5,hW5,hP5,hQ5,hK5⟩:=hrel;have hcb:=HCB.out wr hK5.out
          cases A with
          | true=>
           by_cases hkl:k < U.length
           ·have hkln:(k:Int) < (U.length:Int):=by omega
            have hk0:¬ (k:Int) < 0:=by omega
            have htk:=List.take_succ_eq_append_getElem hkl;have hx32:=B32.out U[k] (List.getElem_mem hkl);have hmu:U[k]∈U:=List.getElem_mem hkl;obtain⟨rfl,hrx⟩:=HBR.out wr hK5.out k hkl;have hxl:(Try.prog.info? 25).map (·.size) = some (bcells U[k]).length:=by rw [bookInfo38,bcells_length,hx32]
            have hlen:M2.length < 536870912:=by have:=hW5.out.len; have:=HB.out; omega
            have hhas:=has_calls M2 U[k] hx32 u5 wr hO5.out.hs (by omega)
            have hou:=HOUTS.out U[k] hmu;have hcl:=HCLO.out M2 hW5.out (λx hx=>hQ5.out.1 x (HALL.out.1 rfl x hx)) U[k] hmu
            have hbrk:=λw' kk=>(HBR.out w' kk k hkl).2
            generalize U[k] = X at htk hx32 hrx hxl hhas hou hcl hbrk;have HRX:=hid hrx;have HXL:=hid hxl;have HHAS:=hid hhas;have HTK:=hid htk;have HBK:=hid hbrk;clear hrx hxl hhas htk hmu hbrk
            go_wp2_with (with_reducible refine wpList_load_mid rfl 25 _ rfl bg (bo + k * 32) rfl (bcells X) _ HRX.out Try.underlying25 rfl HXL.out ?_)
            refine HHAS.out.mono ?_;rintro e w5 ⟨rfl,k5⟩;have hK6:=hK5.out.trans (k5.mono hK5.out.size (λk hk _=>by have:=hK5.out.size; omega))
            have hO6:=hO5.out.kept k5 (Nat.le_refl _);clear k5;generalize hbx:inList M2 X = Bx
            cases Bx with
            | true=>
             have hm:=(Bk.inList_iff M2 X).1 hbx
             have HQ6:Hid ((∀ x∈M1,x∈M2)/\(true = true->∀ o∈U.take (k + 1),o∈M2)/\(true = false->M2 = M1/\m2 = m1)):=hid ⟨hQ5.out.1,λ_ o ho=>by
              rw [HTK.out] at ho
              rcases List.mem_append.1 ho with h | h
              ·exact hQ5.out.2.1 (by trivial) o h
              ·rw [List.mem_singleton] at h
               rw [h]
               exact hm,(λh=>by cases h)⟩
             have HO6:=hid hO6;have HK6:=hid hK6;clear hbx hm hO6 hK6 hou hcl;go_wp2;exact⟨⟨k + 1,M2,m2,by omega,by rw [Int.natCast_add]; rfl,rfl,HO6,hW5,hP5,HQ6,HK6⟩,by simp only [RowKit.intOf]; omega⟩
            | false=>
             have hm:=(Bk.inList_not M2 X).1 hbx;have hput:=put_calls M2 X hx32 u5 w5 hO6.hs hlen;have HW6:=hid (hW5.out.put hou hm hcl);have HP6:=hid (hP5.out.put hou hm);have hcb6:=HCB.out w5 hK6;have HR6:=hid (HBK.out w5 hK6);have HPUT:=hid hput
             have HQ6:Hid ((∀ x∈M1,x∈Bk.put M2 X)/\(true = true->∀ o∈U.take (k + 1),o∈Bk.put M2 X)/\(true = false->Bk.put M2 X = M1/\true = m1)):=hid ⟨λx hx=>(Bk.mem_put M2 X x).2 (.inr (hQ5.out.1 x hx)),λ_ o ho=>by
              rw [HTK.out] at ho;rw [Bk.mem_put]
              rcases List.mem_append.1 ho with h | h
              ·exact .inr (hQ5.out.2.1 (by trivial) o h)
              ·rw [List.mem_singleton] at h
               exact .inl h,(λh=>by cases h)⟩
             have HK6:=hid hK6;clear hbx hm hput hO6 hK6 hou hcl
             go_wp2_with (with_reducible refine wpList_load_mid rfl 25 _ rfl bg (bo + k * 32) rfl (bcells X) _ HR6.out Try.underlying25 rfl HXL.out ?_)
             refine HPUT.out.mono ?_;rintro e w7 ⟨z7,rfl,ho7,k7⟩;have hs:=HK6.out.size;have HO7:=hid (ho7.mono hs);have HK7:=hid (HK6.out.trans (k7.mono hs (λk hk _=>by omega)))
             clear ho7 k7 hs;go_wp2;exact⟨⟨k + 1,Bk.put M2 X,true,by omega,by rw [Int.natCast_add]; rfl,rfl,HO7,HW6,HP6,HQ6,HK7⟩,by simp only [RowKit.intOf]; omega⟩
           ·obtain rfl:k = U.length:=by omega
            have hd:decide ((U.length:Int) < (U.length:Int)) = false:=decide_eq_false (by omega)
            have hpn:Bk.Pass fs M0 M2 m2 (i + 1):=HPASS.out M2 m2 hP5.out (λhm hx o ho=>by
             rw [<- (hP5.out.1 hm).1]
             exact hQ5.out.2.1 (by trivial) o (by rw [List.take_of_length_le (Nat.le_refl _)]; exact ho))
            have HPN:=hid hpn;clear hpn;go_wp2;exact⟨⟨i + 1,M2,m2,by omega,by rw [Int.natCast_add]; rfl,rfl,hO5,hW5,HPN,hK5⟩,by simp only [RowKit.intOf]; omega⟩
          | false=>
           have hpn:Bk.Pass fs M0 M2 m2 (i + 1):=HPASS.out M2 m2 hP5.out (λhm hx o ho=>by
            exfalso
            obtain⟨e1,e2⟩:=hQ5.out.2.2 rfl;have e3:=(hP5.out.1 hm).1;have:=HALL.out.2 (λx hx2=>by rw [<- e1,e3]; exact hx x hx2)
            cases this)
           have HPN:=hid hpn;clear hpn;go_wp2
           all_goals exact⟨⟨i + 1,M2,m2,by omega,by rw [Int.natCast_add]; rfl,rfl,hO5,hW5,HPN,hK5⟩,by simp only [RowKit.intOf]; omega⟩
      ·obtain rfl:i = fs.length:=by omega
       have hd:decide ((fs.length:Int) < (fs.length:Int)) = false:=decide_eq_false (by omega)
       have hlt2:2 * Bk.lack (Bk.outs fs) M1 + m1.toNat < gk:=by
        cases m1 with
        | true=>have:=hP1.out.2 rfl; simp at hgk |-; omega
        | false=>have:=(hP1.out.1 rfl).1; subst this; simp at hgk |-; omega
       have hsh:m1 = false->Bk.Shut fs M1:=λh=>by
        subst h;obtain⟨e1,e2⟩:=hP1.out.shut;rw [e1];exact e2
       have HSH:=hid hsh;clear hsh;go_wp2
       go_roundg (2 * Bk.lack (Bk.outs fs) M1 + m1.toNat)
       case measure=>exact hlt2
       case rel=>exact⟨M1,m1,rfl,Nat.le_refl _,hO1,hW1,HSH,hK1⟩
end Go.Proofs.Ytanfnafiofkihaa
