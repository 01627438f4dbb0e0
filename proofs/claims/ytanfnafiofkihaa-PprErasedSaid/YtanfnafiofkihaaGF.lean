/-
 BookSmall; BookMem; BookMem2; BookGrow; BookAdd; BookHasF; BookDig; BookNoteF; BookNew: several texts in one.
-/
import Derived.Test.YtanfnafiofkihaaGD
import Derived.Test.YtanfnafiofkihaaShelf
import Derived.Test.YtanfnafiofkihaaGE
import Derived.Test.YtanfnafiofkihaaGC
import Derived.BigQuiet
import Derived.Laws.IdiomStrings
import Derived.Laws.MakeOwn
set_option maxRecDepth 100000
set_option maxHeartbeats 6400000
namespace Go.Proofs.Ytanfnafiofkihaa
open Go.RowKit Go.Lib
open List renaming setIfInBounds_toArray -> sA, set_cons_zero -> sB, set_cons_succ -> sC
open BigFrame renaming wpList_want -> wQ
theorem bookGuard39:Try.prog.eqGuardType Try.prog.depth 26 = false:=by kernel_rfl
theorem book_equal39 (w:World)(xs ys:List UInt8)(hx:xs.length = 32)(hy:ys.length = 32):(Op.equalIn 10000 26 (.agg (bcells xs).toArray) (.agg (bcells ys).toArray)).run Try.prog w = .ok (xs == ys) w:=
 run_equalIn_bytes (P:=Try.prog) w 9998 26 5 32 Try.underlying26 Try.underlying5 (λw=>Try.sizeOf5 w) xs ys hx hy
theorem bookInfo39h:(Try.prog.info? 26).map (·.size) = some 32:=by kernel_rfl
theorem equal_calls (L M:List (List UInt8))(v u:Value)(w:World)(hL:Hs w v L)(hM:Hs w u M)(hn:L.length < 1073741824)(hm:M.length < 1073741824):
  Calls Try.prog 107 #[v,u] w λe w'=>e = .returned (.bool (alikeB L M))/\Kept w.heap.size w.heap.size w w':=by
 obtain⟨h32,ad,g,o,c,rfl,hcell⟩:=hL;obtain⟨m32,bd,b,q,d,rfl,mcell⟩:=hM;have HC:=hid hcell;have H32:=hid h32;have MC:=hid mcell;have M32:=hid m32;clear hcell h32 mcell m32;have gd:=bookGuard39
 go_enter Try.func107,Try.ntmps107
 by_cases hlen:L.length = M.length
 ·have hd:((L.length:Int) != (M.length:Int)) = false:=by rw [bne_eq_false_iff_eq,hlen]
  have HLE:=hid hlen;clear hlen
  go_wp2_with fail
  go_loopw [13] (λi w9=>∃ k:Nat,k<=L.length/\i = .int .i64 (k:Int)/\Hid (L.take k = M.take k)/\Hid (Kept w.heap.size w.heap.size w w9)) (λi _=>L.length - (RowKit.intOf i).toNat)
  case atStart=>exact⟨0,by omega,rfl,hid (by simp),hid (Kept.refl _ _ _)⟩
  case round=>
   obtain⟨k,hk,rfl,hno,hK⟩:=hrel
   by_cases hlt:k < L.length
   ·obtain⟨rfl,hg,hr⟩:=HC.out k hlt
    have hltm:k < M.length:=by rw [<- HLE.out]; exact hlt
    obtain⟨rfl,hb,hq⟩:=MC.out k hltm;have hx32:=H32.out L[k] (List.getElem_mem hlt);have hy32:=M32.out M[k] (List.getElem_mem hltm);have hln:(k:Int) < (L.length:Int):=by omega
    have hlm:(k:Int) < (M.length:Int):=by omega
    have hk0:¬ (k:Int) < 0:=by omega
    have hgr:g < wr.heap.size:=by have:=hK.out.size; omega
    have hbr:b < wr.heap.size:=by have:=hK.out.size; omega
    have hgx:wr.rangeAt g (o + k * 32) (bcells L[k]):=rangeAt_kept hK.out hr hg (Nat.ne_of_lt hg);have hbx:wr.rangeAt b (q + k * 32) (bcells M[k]):=rangeAt_kept hK.out hq hb (Nat.ne_of_lt hb);have heqk:=λw=>book_equal39 w L[k] M[k] hx32 hy32
    have hmore:L[k] = M[k]->L.take (k + 1) = M.take (k + 1):=λe=>by
     rw [List.take_succ_eq_append_getElem hlt,List.take_succ_eq_append_getElem hltm,hno.out,e]
    have hfound:L[k]≠M[k]->alikeB L M = false:=λe=>by
     rw [alikeB,beq_eq_false_iff_ne];intro h;exact e (by subst h; rfl)
    have hrange:=λw'=>mid_regrown (w:=wr) hgr hgx w'
    have harow:=λw'=>mid_regrown (w:=wr) hbr hbx w'
    have hxl:(Try.prog.info? 26).map (·.size) = some (bcells L[k]).length:=by rw [bookInfo39h,bcells_length,hx32]
    have hyl:(Try.prog.info? 26).map (·.size) = some (bcells M[k]).length:=by rw [bookInfo39h,bcells_length,hy32]
    generalize L[k] = X at heqk hmore hfound hrange hxl;generalize M[k] = Y at heqk hmore hfound harow hyl;have HR:=hid hrange;have HAR:=hid harow;have HXL:=hid hxl;have HYL:=hid hyl;have Hmore:=hid hmore;have Hfound:=hid hfound;clear hrange harow hxl hyl hmore hfound hgx hbx hr hq hx32 hy32
    go_upto_region 6 with fail
    refine wp_region_quiet_below (by kernel_rfl) (by kernel_rfl) ?_
    iterate 9
     first
      | (refine wpQuiet_load_at 26 _ rfl g (o + k * 32) rfl (bcells X) _ HR.out Try.underlying26 rfl HXL.out rfl ?_; go_simp)
      | (refine wpQuiet_load_at 26 _ rfl b (q + k * 32) rfl (bcells Y) _ HAR.out Try.underlying26 rfl HYL.out rfl ?_; go_simp)
      | (quiet_step (fail))
    refine wpQuiet_nil ?_;intro p;have k2:=regrown_kept (w:=wr) ⟨p,rfl⟩;generalize Go.Sort.grow (redrawn wr p.d) p.os = w2 at k2 |-;clear heqk;generalize hbe:(X == Y) = B
    cases B with
    | true=>
     have Hno2:=hid (Hmore.out (eq_of_beq hbe));have Hk2:=hid (hK.out.trans (k2.mono hK.out.size (λk hk _=>by have:=hK.out.size; omega)))
     clear k2 hbe;go_wp2;exact⟨⟨k + 1,by omega,by rw [Int.natCast_add]; rfl,Hno2,Hk2⟩,by simp only [RowKit.intOf]; omega⟩
    | false=>
     have HCn:=hid (Hfound.out (beq_eq_false_iff_ne.1 hbe));clear hbe;go_wp2;go_ret;exact⟨by show Ending.returned (.bool false) = _; rw [HCn.out],hK.out.trans (k2.mono hK.out.size (λk hk _=>by have:=hK.out.size; omega))⟩
   ·obtain rfl:k = L.length:=by omega
    have hc:alikeB L M = true:=by
     have h1:=hno.out;rw [List.take_of_length_le (Nat.le_refl _),List.take_of_length_le (by have:=HLE.out; omega)] at h1
     rw [alikeB,h1];exact beq_self_eq_true M
    have HCn:=hid hc;clear hc;go_wp2;go_ret;exact⟨by show Ending.returned (.bool true) = _; rw [HCn.out],hK.out⟩
 ·have hd:((L.length:Int) != (M.length:Int)) = true:=by rw [bne_iff_ne]; omega
  have hc:alikeB L M = false:=by
   rw [alikeB,beq_eq_false_iff_ne];intro h;exact hlen (by rw [h])
  have HCn:=hid hc;clear hlen hc;go_wp2;go_ret;exact⟨by show Ending.returned (.bool false) = _; rw [HCn.out],Kept.refl _ _ _⟩
theorem append_none (w:World)(base:Nat)(v:Value)(M:List (List UInt8))(hown:OwnH w base v M)(hbase:base<=w.heap.size)(a:Addr)(c:Nat)(hl:M.length < 1073741824):
  ∃ v' w',(Builtin.append_ #[23,23] 23 #[v,.slice (some a) 0 c]).run Try.prog w = .ok v' w'/\OwnH w' base v' M/\w.grownBy w' v.ownBlock:=by
 obtain⟨i,z,hi,hz,hzs,hs,hby⟩:=hash_info;obtain⟨h32,ho⟩:=hown
 obtain⟨v',w',h1,h2,h3,_⟩:=run_append_own (P:=Try.prog) w base 23 23 26 i z 32 32 Try.underlying23 hi hz hs hby hzs (by decide) v M.length (bcells M.flatten) ho a 0 c []
  rfl (λj u hu=>by simp at hu) (λu hu=>by simp at hu) (by unfold maxLen; omega) (by omega) hbase
 refine⟨v',w',h1,⟨h32,?_⟩,h3⟩
 simpa using h2
theorem eql_nil (w:World):(binOp .eql 23 (.slice none 0 0) (.slice none 0 0)).run Try.prog w = .ok (.bool true) w:=by kernel_rfl
theorem eql_some (a:Addr)(n c:Nat)(w:World):(binOp .eql 23 (.slice (some a) n c) (.slice none 0 0)).run Try.prog w = .ok (.bool false) w:=by kernel_rfl
theorem clone_calls (X:List (List UInt8))(v:Value)(w:World)(hX:Hs w v X)(hnil:∀ n c,v = .slice none n c->n = 0/\c = 0)(hn:X.length < 1000000):
  Calls Try.prog 108 #[v] w λe w'=>∃ u,e = .returned u/\OwnH w' w.heap.size u X/\Kept w.heap.size w.heap.size w w':=by
 obtain⟨x32,ad,g,o,c,rfl,hcell⟩:=hX
 cases ad with
 | none=>
  obtain⟨h0,rfl⟩:=hnil _ _ rfl;obtain rfl:=List.length_eq_zero_iff.1 h0;clear hcell hnil;simp only [List.length_nil];have e0:=eql_nil w
  go_enter Try.func108,Try.ntmps108
  go_wp2;go_ret;exact⟨_,rfl,⟨(λ_ h=>nomatch h),World.ownsRow_nil _ _ _ _⟩,Kept.refl _ _ _⟩
 | some a=>
  have hO:OwnH (w.alloc (.cells #[] 26)) w.heap.size (.slice (some ⟨w.heap.size,0,none⟩) 0 0) []:=⟨(λ_ h=>nomatch h),World.ownsRow_made w #[] 0 (Nat.le_refl _) (by decide) rfl⟩
  have k1:Kept w.heap.size w.heap.size w (w.alloc (.cells #[] 26)):=(Kept.refl _ _ _).alloc (Nat.le_refl _) _
  have happ:∃ v' w',(Builtin.append_ #[23,23] 23 #[.slice (some ⟨w.heap.size,0,none⟩) 0 0,.slice (some a) X.length c]).run Try.prog (w.alloc (.cells #[] 26)) = .ok v' w'/\OwnH w' w.heap.size v' X/\(w.alloc (.cells #[] 26)).grownBy w' (some w.heap.size):=by
   by_cases h0:X = []
   ·subst h0
    exact append_none _ _ _ [] hO k1.size a c (by simp)
   ·have hl:0 < X.length:=List.length_pos_iff.2 h0
    obtain⟨e,hg,_⟩:=hcell 0 hl
    cases e
    exact append_hashes _ _ _ [] hO k1.size g o c X x32 (λi hi=>by
     obtain⟨_,h2,h3⟩:=hcell i hi
     exact rangeAt_kept k1 h3 h2 (Nat.ne_of_lt h2)) (by simp; omega)
  obtain⟨v',w',hr,ho,hg⟩:=happ;have HO:=hid ho;have HK:Hid (Kept w.heap.size w.heap.size w w'):=hid (k1.grown hg k1.size (λk h=>by cases h; exact Nat.le_refl _))
  have HR:=hid hr;clear hcell hnil ho hg hO k1 x32 hr;have e0:=eql_some a X.length c w
  go_enter Try.func108,Try.ntmps108
  go_wp2_with (with_reducible refine wpList_append_known rfl _ _ 23 23 23 rfl rfl (.slice (some ⟨w.heap.size,0,none⟩) 0 0) (.slice (some a) X.length c) rfl rfl HR.out ?_)
  go_ret;exact⟨_,rfl,HO.out,HK.out⟩
theorem apiFactInfoAll:(Try.prog.info? 122).map (λi=>(i.zero.map (·.cells.size),i.size,i.bytes)) = some (some 2,2,48):=by kernel_rfl
theorem apiFact_info:∃ i z,Try.prog.info? 122 = some i/\i.zero = some z/\z.cells.size = 2/\i.size = 2/\i.bytes = 48:=by
 have h:=apiFactInfoAll
 cases hq:Try.prog.info? 122 with
 | none=>rw [hq] at h; cases h
 | some i=>
  rw [hq] at h;simp only [Option.map_some,Option.some.injEq,Prod.mk.injEq] at h
  cases hz:i.zero with
  | none=>rw [hz] at h; cases h.1
  | some z=>
   rw [hz] at h;simp only [Option.map_some,Option.some.injEq] at h;exact⟨i,z,rfl,hz,h.1,h.2.1,h.2.2⟩
theorem rowCells {w:World}{B n s:Nat}{t:TypeId}{v:Value}{xs:List Value}(h:w.ownsRow B t s v n xs)(k:Nat)(hk:v.ownBlock = some k):∃ cs,w.heap[k]? = some (.cells cs t (0,0)):=by
 rcases h.2 with ⟨rfl,_⟩ | ⟨g,cap,cur,rfl,_,hh,_⟩
 ·simp [Value.ownBlock] at hk
 ·simp [Value.ownBlock] at hk
  subst hk;exact⟨cur,hh⟩
theorem rowOne {w:World}{B n s:Nat}{t:TypeId}{v:Value}{xs:List Value}(h:w.ownsRow B t s v n xs):v.oneCell' = true:=by
 rcases h.2 with ⟨rfl,_⟩ | ⟨g,cap,cur,rfl,_⟩ <;> rfl
theorem append_factB (w:World)(base:Nat)(X:Nat->Prop)(v:Value)(L:List (List (List UInt8) × List (List UInt8)))(hown:OwnB w base X v L)(hbase:base<=w.heap.size)(b c:Nat)(x y:Value)(f:List (List UInt8) × List (List UInt8))(hx:OwnH w base x f.1)(hy:OwnH w base y f.2)(hxX:∀ k,x.ownBlock = some k->¬ X k)(hyX:∀ k,y.ownBlock = some k->¬ X k)(hb0:w.cell? ⟨b,0,none⟩ = some x)(hb1:w.cell? ⟨b,1,none⟩ = some y)(hl:L.length < 1073741824):
  ∃ v' w',(Builtin.append_ #[83,83] 83 #[v,.slice (some ⟨b,0,none⟩) 1 c]).run Try.prog w = .ok v' w'/\OwnB w' base X v' (L ++ [f])/\w.grownBy w' v.ownBlock:=by
 obtain⟨i,z,hi,hz,hzs,hs,hby⟩:=apiFact_info;obtain⟨ps,hpl,ho,hp⟩:=hown
 obtain⟨v',w',h1,h2,h3,_⟩:=run_append_own (P:=Try.prog) w base 83 83 122 i z 2 48 Try.underlying83 hi hz hs hby hzs (by decide) v L.length _ ho ⟨b,0,none⟩ 1 c [x,y]
  rfl (λj u hu=>by
   rw [Addr.add_lit]
   match j with
   | 0=>cases hu; exact hb0
   | 1=>cases hu; exact hb1
   | j + 2=>simp at hu)
  (λu hu=>by
   simp at hu
   rcases hu with rfl | rfl
   ·exact rowOne hx.2
   ·exact rowOne hy.2) (by unfold maxLen; omega) (by omega) hbase
 have hst:∀ (k:Nat) (cs:Array Value) (fr:Nat × Nat),w.heap[k]? = some (Obj.cells cs 26 fr)->w'.heap[k]? = some (Obj.cells cs 26 fr):=λk cs fr hh=>by
  rw [h3.block k (lt_of_block hh) (λe=>?_)]
  ·exact hh
  ·obtain⟨cs2,h4⟩:=rowCells ho k e.symm
   rw [hh] at h4
   cases h4
 refine⟨v',w',h1,⟨ps ++ [(x,y)],by simp [hpl],?_,λj hj hpj=>?_⟩,h3⟩
 ·rw [List.length_append,List.length_singleton,List.flatMap_append]
  simpa using h2
 ·rcases Nat.lt_or_ge j L.length with h | h
  ·obtain⟨p,q,xp,xq⟩:=hp j h (by omega)
   rw [List.getElem_append_left (by omega),List.getElem_append_left h]
   exact⟨p.stay hst,q.stay hst,xp,xq⟩
  ·obtain rfl:j = L.length:=by simp at hj; omega
   have e1:(ps ++ [(x,y)])[L.length] = (x,y):=by rw [List.getElem_append_right (by omega)]; simp [hpl]
   have e2:(L ++ [f])[L.length] = f:=by rw [List.getElem_append_right (Nat.le_refl _)]; simp
   rw [e1,e2];exact⟨hx.stay hst,hy.stay hst,hxX,hyX⟩
structure BkFr (base:Nat) (w w':World):Prop where
 kept:Kept base base w w'
 oth:∀ (k:Nat) (cs:Array Value) (t:TypeId) (fr:Nat × Nat),w.heap[k]? = some (.cells cs t fr)->t≠85->t≠3->t≠122->w'.heap[k]? = some (.cells cs t fr)
theorem BkFr.refl (base:Nat)(w:World):BkFr base w w:=⟨Kept.refl _ _ _,λ_ _ _ _ h _ _ _=>h⟩
theorem BkFr.trans {base:Nat}{w1 w2 w3:World}(h:BkFr base w1 w2)(k:BkFr base w2 w3):BkFr base w1 w3:=⟨h.kept.trans k.kept,λi cs t fr hh h1 h2 h3=>k.oth i cs t fr (h.oth i cs t fr hh h1 h2 h3) h1 h2 h3⟩
theorem BkFr.ofKept {base:Nat}{w w':World}(hb:base<=w.heap.size)(k:Kept w.heap.size w.heap.size w w'):BkFr base w w':=⟨k.mono hb (λi hi _=>by omega),λ_ cs t fr hh _ _ _=>rk hh k⟩
theorem BkFr.grown {base:Nat}{w w2:World}{row:Option Nat}(hg:w.grownBy w2 row)(hB:base<=w.heap.size)(hr:∀ k,row = some k->base<=k)(ht:∀ k,row = some k->∀ cs t fr,w.heap[k]? = some (.cells cs t fr)->t = 85\/t = 3\/t = 122):BkFr base w w2:=
 ⟨(Kept.refl _ _ _).grown hg hB hr,λi cs t fr hh h1 h2 h3=>by
  rw [hg.block i (lt_of_block hh) (λe=>?_)]
  ·exact hh
  ·rcases ht i e.symm cs t fr hh with h | h | h
   ·exact h1 h
   ·exact h2 h
   ·exact h3 h⟩
noncomputable def push (L:Ow->List Nat) (o:Ow) (x:Nat):Ow->List Nat:=λo'=>@ite _ (o' = o) (Classical.propDecidable _) (L o' ++ [x]) (L o')
theorem push_same (L:Ow->List Nat)(o:Ow)(x:Nat):push L o x o = L o ++ [x]:=by unfold push; rw [if_pos rfl]
theorem push_other (L:Ow->List Nat){o o':Ow}(x:Nat)(h:o'≠o):push L o x o' = L o':=by unfold push; rw [if_neg h]
theorem push_le {L:Ow->List Nat}{o:Ow}{x b:Nat}(h:∀ o,(L o).length<=b)(o':Ow):(push L o x o').length<=b + 1:=by
 by_cases he:o' = o
 ·subst he
  rw [push_same,List.length_append,List.length_singleton];have:=h o'
  omega
 ·rw [push_other _ _ he]
  have:=h o'
  omega
structure Bom (w:World) (base bb:Nat) (fs:List (List (List UInt8) × List (List UInt8))) (b:Nat) (nmf:Lit->Option Value) (S:BokS):Prop where
 cells:w.heap[bb]? = some (.cells #[S.fv,.map (some S.am),.map (some S.nm),S.frv,.map (some S.mm)] 85 (0,0))
 lowb:base<=bb
 lowa:base<=S.am
 lown:base<=S.nm
 lowm:base<=S.mm
 an:S.am≠S.nm
 amm:S.am≠S.mm
 nmm:S.nm≠S.mm
 facts:OwnB w base S.X S.fv fs
 alike:Mp w 26 S.am b S.fa
 need:Mp w 26 S.nm b S.fn
 names:Mp w 9 S.mm b nmf
 row:∀ o,OwnI w base (S.val o) (S.L o)
 sep:∀ o o',o≠o'->∀ k,(S.val o).ownBlock = some k->(S.val o').ownBlock≠some k
 few:∀ o,(S.L o).length<=b
section
variable {w:World} {base bb b:Nat} {fs:List (List (List UInt8) × List (List UInt8))} {nmf:Lit->Option Value} {S:BokS}
theorem Bok.mem (h:Bok w base bb fs b nmf S):Bom w base bb fs b nmf S:=⟨h.cells,h.lowb,h.lowa,h.lown,h.lowm,h.an,h.amm,h.nmm,h.facts,h.alike,h.need,h.names,h.row,h.sep,h.few⟩
theorem Bom.mono (h:Bom w base bb fs b nmf S){b':Nat}(hb:b<=b'):Bom w base bb fs b' nmf S:=⟨h.cells,h.lowb,h.lowa,h.lown,h.lowm,h.an,h.amm,h.nmm,h.facts,h.alike.mono hb,h.need.mono hb,h.names.mono hb,h.row,h.sep,λo=>Nat.le_trans (h.few o) hb⟩
theorem Bom.kept (h:Bom w base bb fs b nmf S){w':World}(k:Kept w.heap.size w.heap.size w w'):Bom w' base bb fs b nmf S:=by
 have hk:∀ i,i < w.heap.size->w'.heap[i]? = w.heap[i]?:=λi hi=>k.block i hi (Nat.ne_of_lt hi)
 refine⟨(hk bb (lt_of_block h.cells)).trans h.cells,h.lowb,h.lowa,h.lown,h.lowm,h.an,h.amm,h.nmm,?_,h.alike.same (hk _ h.alike.lt),h.need.same (hk _ h.need.lt),h.names.same (hk _ h.names.lt),λo=>(h.row o).stay λi hi=>?_,h.sep,h.few⟩
 ·refine h.facts.stay (λi hi=>?_) (λi cs fr hh=>?_)
  ·obtain⟨ps,_,ho,_⟩:=h.facts
   exact hk i (ho.lt i hi).2
  ·exact(hk i (lt_of_block hh)).trans hh
 ·exact hk i ((h.row o).lt i hi).2
theorem rows_grow {w2:World}(hrow:∀ o,OwnI w base (S.val o) (S.L o))(hsep:∀ o o',o≠o'->∀ k,(S.val o).ownBlock = some k->(S.val o').ownBlock≠some k)(o:Ow)(x:Nat){v':Value}(hown:OwnI w2 base v' (S.L o ++ [x]))(hg:w.grownBy w2 (S.val o).ownBlock)(hnew:v'.ownBlock = (S.val o).ownBlock\/v'.ownBlock = some w.heap.size){S':BokS}(hL:S'.L = push S.L o x)(hv:S'.val o = v')(hv':∀ o',o'≠o->S'.val o' = S.val o'):
  (∀ o',OwnI w2 base (S'.val o') (S'.L o'))/\(∀ o o',o≠o'->∀ k,(S'.val o).ownBlock = some k->(S'.val o').ownBlock≠some k)/\∀ o' k,(S'.val o').ownBlock = some k->(S.val o').ownBlock = some k\/k = w.heap.size:=by
 have hpl:∀ o' k,(S'.val o').ownBlock = some k->(S.val o').ownBlock = some k\/(o' = o/\k = w.heap.size):=λo' k hk=>by
  by_cases he:o' = o
  ·subst he
   rw [hv] at hk
   rcases hnew with h | h
   ·exact .inl (by rw [<- h]; exact hk)
   ·rw [h] at hk
    cases hk
    exact .inr ⟨rfl,rfl⟩
  ·rw [hv' o' he] at hk
   exact .inl hk
 have hlt:∀ o' k,(S.val o').ownBlock = some k->k < w.heap.size:=λo' k hk=>((hrow o').lt k hk).2
 refine⟨λo'=>?_,λo1 o2 h12 k h1 h2=>?_,λo' k hk=>(hpl o' k hk).imp id (·.2)⟩
 ·by_cases he:o' = o
  ·subst he
   rw [hv,hL,push_same];exact hown
  ·rw [hv' o' he,hL,push_other _ _ he]
   exact(hrow o').stay λk hk=>hg.block k (hlt o' k hk) (λe=>hsep o' o he k hk e.symm)
 ·rcases hpl o1 k h1 with h3 | ⟨h3,rfl⟩
  ·rcases hpl o2 k h2 with h4 | ⟨_,rfl⟩
   ·exact hsep o1 o2 h12 k h3 h4
   ·exact absurd (hlt o1 _ h3) (Nat.lt_irrefl _)
  ·rcases hpl o2 _ h2 with h4 | ⟨h4,_⟩
   ·exact absurd (hlt o2 _ h4) (Nat.lt_irrefl _)
   ·exact h12 (h3.trans h4.symm)
theorem Bom.facts_put (h:Bom w base bb fs b nmf S)(hbase:base<=w.heap.size){w2:World}{v':Value}{f:List (List UInt8) × List (List UInt8)}(hO:OwnB w2 base S.X v' (fs ++ [f]))(hg:w.grownBy w2 S.fv.ownBlock):
  w2.heap[bb]? = w.heap[bb]?/\Bom (w2.setCell ⟨bb,0,none⟩ v') base bb (fs ++ [f]) b nmf { S with fv:=v' }/\BkFr base w (w2.setCell ⟨bb,0,none⟩ v') /\
   ∀ (k:Nat) (o:Obj),w.heap[k]? = some o->S.fv.ownBlock≠some k->k≠bb->(w2.setCell ⟨bb,0,none⟩ v').heap[k]? = some o:=by
 have hfv:∀ k,S.fv.ownBlock = some k->base<=k/\∃ cs,w.heap[k]? = some (.cells cs 122 (0,0)):=λk hk=>by
  obtain⟨ps,_,ho,_⟩:=h.facts;exact⟨(ho.lt k hk).1,rowCells ho k hk⟩
 have keep:∀ (k:Nat) (o:Obj),w.heap[k]? = some o->(∀ cs fr,o≠.cells cs 122 fr)->k≠bb->(w2.setCell ⟨bb,0,none⟩ v').heap[k]? = some o:=λk o hh hne hb=>by
  rw [setCell_other _ _ _ _ _ hb,hg.block k (lt_of_block hh) (λe=>?_)]
  ·exact hh
  ·obtain⟨_,cs,h1⟩:=hfv k e.symm
   rw [hh] at h1
   cases h1
   exact hne _ _ rfl
 have hbb:w2.heap[bb]? = w.heap[bb]?:=hg.block bb (lt_of_block h.cells) (λe=>by
  obtain⟨_,cs,h1⟩:=hfv bb e.symm;rw [h.cells] at h1
  cases h1)
 have hmap:∀ (k:Nat),(∃ es c,w.heap[k]? = some (.map es c))->(w2.setCell ⟨bb,0,none⟩ v').heap[k]? = w.heap[k]?:=λk ⟨es,c,hh⟩=>by
  rw [hh];refine keep k _ hh (λ_ _=>by simp) (λe=>?_)
  subst e;rw [h.cells] at hh
  cases hh
 have hc2:=hbb.trans h.cells
 have e1:BkFr base w w2:=BkFr.grown hg hbase (λk hk=>(hfv k hk).1) (λk hk cs t fr hh=>by
  obtain⟨_,cs2,h1⟩:=hfv k hk;rw [hh] at h1
  cases h1
  exact .inr (.inr rfl))
 refine⟨hbb,⟨?_,h.lowb,h.lowa,h.lown,h.lowm,h.an,h.amm,h.nmm,?_,h.alike.same (hmap _ h.alike.map),h.need.same (hmap _ h.need.map),h.names.same (hmap _ h.names.map),λo=>(h.row o).stay λk hk=>?_,h.sep,h.few⟩,e1.trans ?_,λk o hh hne hb=>by
  rw [setCell_other _ _ _ _ _ hb,hg.block k (lt_of_block hh) (λe=>hne e.symm)]
  exact hh⟩
 ·have:=cells_set (cs:=[S.fv,Value.map (some S.am),Value.map (some S.nm),S.frv,Value.map (some S.mm)]) hc2 0 v'
  simpa using this
 ·refine hO.stay (λk hk=>?_) (λk cs fr hh=>?_)
  ·refine setCell_other _ _ _ _ _ (λe=>?_)
   subst e;obtain⟨ps,_,ho,_⟩:=hO;obtain⟨cs,h1⟩:=rowCells ho _ hk;rw [hc2] at h1
   cases h1
  ·rw [setCell_other _ _ _ _ _ (λe=>?_)]
   ·exact hh
   ·subst e
    rw [hc2] at hh
    cases hh
 ·obtain⟨cs,h1⟩:=(h.row o).cellsAt k hk
  rw [h1];refine keep k _ h1 (λ_ _=>by simp) (λe=>?_)
  subst e;rw [h.cells] at h1
  cases h1
 ·exact⟨(Kept.refl _ _ _).set (.inr h.lowb) 0 v',λk cs t fr hh h1 _ _=>by
   rw [setCell_other _ _ _ _ _ (λe=>?_)]
   ·exact hh
   ·subst e
    rw [hc2] at hh
    cases hh
    exact h1 rfl⟩
end
section
variable {w:World} {base bb b:Nat} {fs:List (List (List UInt8) × List (List UInt8))} {nmf:Lit->Option Value} {S:BokS}
theorem lit_ne {l l':List UInt8}(h:l≠l'):(Lit.string l:Lit)≠.string l':=λe=>h (by cases e; rfl)
theorem val_ne_other (S:BokS)(l:List UInt8)(x:Nat)(v':Value):∀ o',o'≠Ow.ne l->({ S with fn:=upd S.fn (.string l) v',L:=push S.L (.ne l) x }:BokS).val o' = S.val o'
 | .al _,_=>rfl
 | .fr,_=>rfl
 | .ne l',h=>by
  show(upd S.fn (.string l) v' (.string l')).getD _ = _;rw [upd_other _ _ (lit_ne (λe=>h (by rw [e])))]
  rfl
theorem val_ne_same (S:BokS)(l:List UInt8)(x:Nat)(v':Value):({ S with fn:=upd S.fn (.string l) v',L:=push S.L (.ne l) x }:BokS).val (.ne l) = v':=by
 show(upd S.fn (.string l) v' (.string l)).getD _ = _;rw [upd_same]
 rfl
theorem val_al_other (S:BokS)(l:List UInt8)(x:Nat)(v':Value):∀ o',o'≠Ow.al l->({ S with fa:=upd S.fa (.string l) v',L:=push S.L (.al l) x }:BokS).val o' = S.val o'
 | .ne _,_=>rfl
 | .fr,_=>rfl
 | .al l',h=>by
  show(upd S.fa (.string l) v' (.string l')).getD _ = _;rw [upd_other _ _ (lit_ne (λe=>h (by rw [e])))]
  rfl
theorem val_al_same (S:BokS)(l:List UInt8)(x:Nat)(v':Value):({ S with fa:=upd S.fa (.string l) v',L:=push S.L (.al l) x }:BokS).val (.al l) = v':=by
 show(upd S.fa (.string l) v' (.string l)).getD _ = _;rw [upd_same]
 rfl
theorem val_fr_other (S:BokS)(x:Nat)(v':Value):∀ o',o'≠Ow.fr->({ S with frv:=v',L:=push S.L .fr x }:BokS).val o' = S.val o'
 | .al _,_=>rfl
 | .ne _,_=>rfl
 | .fr,h=>absurd rfl h
structure EntFr (base m:Nat) (w w':World):Prop where
 kept:Kept base base w w'
 oth:∀ (k:Nat) (o:Obj),w.heap[k]? = some o->(∀ cs fr,o≠.cells cs 3 fr)->k≠m->w'.heap[k]? = some o
theorem EntFr.bk {base m:Nat}{w w':World}(h:EntFr base m w w')(hm:∃ es c,w.heap[m]? = some (.map es c)):BkFr base w w':=⟨h.kept,λk cs t fr hh _ h2 _=>h.oth k _ hh (λcs' fr' e=>by cases e; exact h2 rfl) (λe=>by
 subst e;obtain⟨es,c,h3⟩:=hm;rw [hh] at h3
 cases h3)⟩
theorem entry_row (hrow:∀ o,OwnI w base (S.val o) (S.L o))(hsep:∀ o o',o≠o'->∀ k,(S.val o).ownBlock = some k->(S.val o').ownBlock≠some k)(hbase:base<=w.heap.size){m:Nat}(hlm:base<=m){F:Lit->Option Value}(hM:Mp w 26 m b F)(hb:b < 1000000000)(l:List UInt8)(hl:l.length = 32)(o:Ow)(ho:S.val o = (F (.string l)).getD (.slice none 0 0))(hlo:(S.L o).length<=b)(x g c:Nat)(hx:w.heap[g]? = some (.cells #[.int .i64 (x:Nat)] 3 (0,0))):
  ∃ st w1,(Instr.mapEntry 81 (.map (some m)) (.agg (bcells l).toArray)).run Try.prog w = .ok (.tuple #[S.val o,goInt st]) w1/\EntFr base m w w1 /\
   ∃ v' w2,(Builtin.append_ #[58,58] 58 #[S.val o,.slice (some ⟨g,0,none⟩) 1 c]).run Try.prog w1 = .ok v' w2/\EntFr base m w w2 /\
    ∃ w3,(Instr.entryStore 81 (.map (some m)) (goInt st) v').run Try.prog w2 = .ok () w3/\EntFr base m w w3/\Mp w3 26 m (b + 1) (upd F (.string l) v') /\
     ∀ S':BokS,S'.L = push S.L o x->S'.val o = v'->(∀ o',o'≠o->S'.val o' = S.val o') ->
      (∀ o',OwnI w3 base (S'.val o') (S'.L o'))/\∀ o o',o≠o'->∀ k,(S'.val o).ownBlock = some k->(S'.val o').ownBlock≠some k:=by
 obtain⟨es,clk,hmap⟩:=hM.map
 have hnb:∀ o' k,(S.val o').ownBlock = some k->k≠m:=λo' k hk e=>by
  subst e;exact(hrow o').notMap _ hk _ _ hmap
 have hlt:∀ o' k,(S.val o').ownBlock = some k->base<=k/\k < w.heap.size:=λo' k hk=>(hrow o').lt k hk
 obtain⟨st,o1,w1,hr1,hb1,hg1,hs1,hback⟩:=hM.entry hash_law Try.underlying81 (by unfold maxLen; omega) slice_zero (keyOf_hash l hl)
 rw [<- ho] at hr1;have f1:EntFr base m w w1:=⟨(Kept.refl _ _ _).grown hg1 hbase (λk e=>by cases e; exact hlm),λk obj hh _ hk=>(hg1.block k (lt_of_block hh) (λe=>hk (by cases e; rfl))).trans hh⟩
 have hrow1:∀ o',OwnI w1 base (S.val o') (S.L o'):=λo'=>(hrow o').stay λk hk=>hg1.block k (hlt o' k hk).2 (λe=>hnb o' k hk (by cases e; rfl))
 have hgm:g≠m:=λe=>by
  subst e;rw [hx] at hmap
  cases hmap
 have hx1:w1.heap[g]? = some (.cells #[.int .i64 (x:Nat)] 3 (0,0)):=(hg1.block g (lt_of_block hx) (λe=>hgm (by cases e; rfl))).trans hx
 obtain⟨v',w2,hr2,ho2,hg2,hnew⟩:=append_int w1 base (S.val o) (S.L o) (hrow1 o) (by omega) g c x (by simp [World.cell?,hx1]) (by omega)
 have f2:EntFr base m w w2:=⟨f1.kept.grown hg2 (by omega) (λk hk=>(hlt o k hk).1),λk obj hh hne hk=>by
  rw [hg2.block k (by have:=lt_of_block hh; omega) (λe=>?_)]
  ·exact f1.oth k obj hh hne hk
  ·obtain⟨cs,h1⟩:=(hrow o).cellsAt k e.symm
   rw [hh] at h1
   cases h1
   exact hne _ _ rfl⟩
 have hb2:w2.heap[m]? = some o1:=(hg2.block m (by have:=lt_of_block hmap; omega) (λe=>hnb o m e.symm rfl)).trans hb1
 obtain⟨w3,hr3,hm3,hg3,hs3⟩:=hback w2 v' hb2;have f3:EntFr base m w w3:=⟨f2.kept.grown hg3 (by have:=hg2.size; omega) (λk e=>by cases e; exact hlm),λk obj hh hne hk=>(hg3.block k (by have:=lt_of_block hh; have:=hg2.size; omega) (λe=>hk (by cases e; rfl))).trans (f2.oth k obj hh hne hk)⟩
 refine⟨st,w1,hr1,f1,v',w2,hr2,f2,w3,hr3,f3,hm3,λS' hL hv hv'=>?_⟩
 obtain⟨h1,h2,h3⟩:=rows_grow (S:=S) hrow1 hsep o x ho2 hg2 hnew hL hv hv';refine⟨λo'=>(h1 o').stay λk hk=>hg3.block k ((h1 o').lt k hk).2 (λe=>?_),h2⟩
 obtain rfl:k = m:=by cases e; rfl
 rcases h3 o' k hk with h4 | h4
 ·exact hnb o' k h4 rfl
 ·have:=lt_of_block hmap
  omega
theorem Bom.entry_ne (h:Bom w base bb fs b nmf S)(hbase:base<=w.heap.size)(hb:b < 1000000000)(l:List UInt8)(hl:l.length = 32)(x g c:Nat)(hx:w.heap[g]? = some (.cells #[.int .i64 (x:Nat)] 3 (0,0))):
  ∃ st w1,(Instr.mapEntry 81 (.map (some S.nm)) (.agg (bcells l).toArray)).run Try.prog w = .ok (.tuple #[S.val (.ne l),goInt st]) w1/\EntFr base S.nm w w1 /\
   ∃ v' w2,(Builtin.append_ #[58,58] 58 #[S.val (.ne l),.slice (some ⟨g,0,none⟩) 1 c]).run Try.prog w1 = .ok v' w2/\EntFr base S.nm w w2 /\
    ∃ w3,(Instr.entryStore 81 (.map (some S.nm)) (goInt st) v').run Try.prog w2 = .ok () w3/\EntFr base S.nm w w3 /\
     Bom w3 base bb fs (b + 1) nmf { S with fn:=upd S.fn (.string l) v',L:=push S.L (.ne l) x }:=by
 obtain⟨st,w1,r1,f1,v',w2,r2,f2,w3,r3,f3,hm,hS⟩:=entry_row h.row h.sep hbase h.lown h.need hb l hl (.ne l) rfl (h.few _) x g c hx;obtain⟨h1,h2⟩:=hS { S with fn:=upd S.fn (.string l) v',L:=push S.L (.ne l) x } rfl (val_ne_same S l x v') (val_ne_other S l x v')
 obtain⟨es,clk,hmap⟩:=h.need.map
 have cne:∀ {k:Nat} {cs:Array Value} {t:TypeId} {fr:Nat × Nat},w.heap[k]? = some (.cells cs t fr)->k≠S.nm:=λhh e=>by
  subst e;rw [hh] at hmap
  cases hmap
 refine⟨st,w1,r1,f1,v',w2,r2,f2,w3,r3,f3,⟨f3.oth _ _ h.cells (λ_ _ e=>by cases e) (cne h.cells),h.lowb,h.lowa,h.lown,h.lowm,h.an,h.amm,h.nmm,?_,?_,hm,?_,h1,h2,push_le h.few⟩⟩
 ·refine h.facts.stay (λk hk=>?_) (λk cs fr hh=>f3.oth _ _ hh (λ_ _ e=>by cases e) (cne hh))
  obtain⟨ps,_,ho,_⟩:=h.facts;obtain⟨cs,hh⟩:=rowCells ho k hk;rw [hh];exact f3.oth _ _ hh (λ_ _ e=>by cases e) (cne hh)
 ·obtain⟨es2,c2,hh⟩:=h.alike.map
  exact(h.alike.same (by rw [hh]; exact f3.oth _ _ hh (λ_ _ e=>by cases e) h.an)).mono (Nat.le_succ _)
 ·obtain⟨es2,c2,hh⟩:=h.names.map
  exact(h.names.same (by rw [hh]; exact f3.oth _ _ hh (λ_ _ e=>by cases e) (Ne.symm h.nmm))).mono (Nat.le_succ _)
theorem Bom.entry_al (h:Bom w base bb fs b nmf S)(hbase:base<=w.heap.size)(hb:b < 1000000000)(l:List UInt8)(hl:l.length = 32)(x g c:Nat)(hx:w.heap[g]? = some (.cells #[.int .i64 (x:Nat)] 3 (0,0))):
  ∃ st w1,(Instr.mapEntry 81 (.map (some S.am)) (.agg (bcells l).toArray)).run Try.prog w = .ok (.tuple #[S.val (.al l),goInt st]) w1/\EntFr base S.am w w1 /\
   ∃ v' w2,(Builtin.append_ #[58,58] 58 #[S.val (.al l),.slice (some ⟨g,0,none⟩) 1 c]).run Try.prog w1 = .ok v' w2/\EntFr base S.am w w2 /\
    ∃ w3,(Instr.entryStore 81 (.map (some S.am)) (goInt st) v').run Try.prog w2 = .ok () w3/\EntFr base S.am w w3 /\
     Bom w3 base bb fs (b + 1) nmf { S with fa:=upd S.fa (.string l) v',L:=push S.L (.al l) x }:=by
 obtain⟨st,w1,r1,f1,v',w2,r2,f2,w3,r3,f3,hm,hS⟩:=entry_row h.row h.sep hbase h.lowa h.alike hb l hl (.al l) rfl (h.few _) x g c hx;obtain⟨h1,h2⟩:=hS { S with fa:=upd S.fa (.string l) v',L:=push S.L (.al l) x } rfl (val_al_same S l x v') (val_al_other S l x v')
 obtain⟨es,clk,hmap⟩:=h.alike.map
 have cne:∀ {k:Nat} {cs:Array Value} {t:TypeId} {fr:Nat × Nat},w.heap[k]? = some (.cells cs t fr)->k≠S.am:=λhh e=>by
  subst e;rw [hh] at hmap
  cases hmap
 refine⟨st,w1,r1,f1,v',w2,r2,f2,w3,r3,f3,⟨f3.oth _ _ h.cells (λ_ _ e=>by cases e) (cne h.cells),h.lowb,h.lowa,h.lown,h.lowm,h.an,h.amm,h.nmm,?_,hm,?_,?_,h1,h2,push_le h.few⟩⟩
 ·refine h.facts.stay (λk hk=>?_) (λk cs fr hh=>f3.oth _ _ hh (λ_ _ e=>by cases e) (cne hh))
  obtain⟨ps,_,ho,_⟩:=h.facts;obtain⟨cs,hh⟩:=rowCells ho k hk;rw [hh];exact f3.oth _ _ hh (λ_ _ e=>by cases e) (cne hh)
 ·obtain⟨es2,c2,hh⟩:=h.need.map
  exact(h.need.same (by rw [hh]; exact f3.oth _ _ hh (λ_ _ e=>by cases e) (Ne.symm h.an))).mono (Nat.le_succ _)
 ·obtain⟨es2,c2,hh⟩:=h.names.map
  exact(h.names.same (by rw [hh]; exact f3.oth _ _ hh (λ_ _ e=>by cases e) (Ne.symm h.amm))).mono (Nat.le_succ _)
theorem Bom.free_put (h:Bom w base bb fs b nmf S)(hbase:base<=w.heap.size)(hb:b < 1000000000)(x g c:Nat)(hx:w.heap[g]? = some (.cells #[.int .i64 (x:Nat)] 3 (0,0))):
  ∃ v' w2,(Builtin.append_ #[58,58] 58 #[S.frv,.slice (some ⟨g,0,none⟩) 1 c]).run Try.prog w = .ok v' w2/\(∃ ad n c,v' = .slice ad n c)/\w2.heap[bb]? = w.heap[bb]? /\
   Bom (w2.setCell ⟨bb,3,none⟩ v') base bb fs (b + 1) nmf { S with frv:=v',L:=push S.L .fr x }/\BkFr base w (w2.setCell ⟨bb,3,none⟩ v') /\
    ∀ (k:Nat) (obj:Obj),w.heap[k]? = some obj->(∀ cs fr,obj≠.cells cs 3 fr)->k≠bb->(w2.setCell ⟨bb,3,none⟩ v').heap[k]? = some obj:=by
 have hlt:∀ o' k,(S.val o').ownBlock = some k->base<=k/\k < w.heap.size:=λo' k hk=>(h.row o').lt k hk
 obtain⟨v',w2,hr2,ho2,hg2,hnew⟩:=append_int w base (S.val .fr) (S.L .fr) (h.row .fr) hbase g c x (by simp [World.cell?,hx]) (by have:=h.few .fr; omega)
 obtain⟨h1,h2,h3⟩:=rows_grow (S:=S) h.row h.sep .fr x ho2 hg2 hnew (S':={ S with frv:=v',L:=push S.L .fr x }) rfl rfl (val_fr_other S x v')
 have keep2:∀ (k:Nat) (obj:Obj),w.heap[k]? = some obj->(∀ cs fr,obj≠.cells cs 3 fr)->w2.heap[k]? = some obj:=λk obj hh hne=>by
  rw [hg2.block k (lt_of_block hh) (λe=>?_)]
  ·exact hh
  ·obtain⟨cs,h1⟩:=(h.row .fr).cellsAt k e.symm
   rw [hh] at h1
   cases h1
   exact hne _ _ rfl
 have keep:∀ (k:Nat) (obj:Obj),w.heap[k]? = some obj->(∀ cs fr,obj≠.cells cs 3 fr)->k≠bb->(w2.setCell ⟨bb,3,none⟩ v').heap[k]? = some obj:=λk obj hh hne hk=>by
  rw [setCell_other _ _ _ _ _ hk];exact keep2 k obj hh hne
 have hc2:=keep2 _ _ h.cells (λ_ _ e=>by cases e)
 have hmap:∀ (k:Nat),(∃ es c,w.heap[k]? = some (.map es c))->(w2.setCell ⟨bb,3,none⟩ v').heap[k]? = w.heap[k]?:=λk ⟨es,c,hh⟩=>by
  rw [hh];refine keep k _ hh (λ_ _=>by simp) (λe=>?_)
  subst e;rw [h.cells] at hh
  cases hh
 have e1:BkFr base w w2:=BkFr.grown hg2 hbase (λk hk=>(hlt .fr k hk).1) (λk hk cs t fr hh=>by
  obtain⟨cs2,h4⟩:=(h.row .fr).cellsAt k hk;rw [hh] at h4
  cases h4
  exact .inr (.inl rfl))
 obtain⟨ad,g2,c2,hsh,_⟩:=OwnI.shape ho2;refine⟨v',w2,hr2,⟨_,_,_,hsh⟩,hc2.trans h.cells.symm,⟨?_,h.lowb,h.lowa,h.lown,h.lowm,h.an,h.amm,h.nmm,?_,(h.alike.same (hmap _ h.alike.map)).mono (Nat.le_succ _),(h.need.same (hmap _ h.need.map)).mono (Nat.le_succ _),(h.names.same (hmap _ h.names.map)).mono (Nat.le_succ _),λo=>(h1 o).stay λk hk=>?_,h2,push_le h.few⟩,e1.trans ?_,keep⟩
 ·have:=cells_set (cs:=[S.fv,Value.map (some S.am),Value.map (some S.nm),S.frv,Value.map (some S.mm)]) hc2 3 v'
  simpa using this
 ·have hcb:∀ {k:Nat} {cs:Array Value} {t:TypeId} {fr:Nat × Nat},w.heap[k]? = some (.cells cs t fr)->t≠85->k≠bb:=λhh ht e=>by
   subst e;rw [h.cells] at hh
   cases hh
   exact ht rfl
  refine h.facts.stay (λk hk=>?_) (λk cs fr hh=>keep _ _ hh (λ_ _ e=>by cases e) (hcb hh (by decide)))
  obtain⟨ps,_,ho,_⟩:=h.facts;obtain⟨cs,hh⟩:=rowCells ho k hk;rw [hh];exact keep _ _ hh (λ_ _ e=>by cases e) (hcb hh (by decide))
 ·refine setCell_other _ _ _ _ _ (λe=>?_)
  subst e;obtain⟨cs,h4⟩:=(h1 o).cellsAt _ hk;rw [hc2] at h4
  cases h4
 ·exact⟨(Kept.refl _ _ _).set (.inr h.lowb) 3 v',λk cs t fr hh h4 _ _=>by
   rw [setCell_other _ _ _ _ _ (λe=>?_)]
   ·exact hh
   ·subst e
    rw [hc2] at hh
    cases hh
    exact h4 rfl⟩
end
noncomputable def pushAll (L:Ow->List Nat) (hs:List (List UInt8)) (x:Nat):Ow->List Nat:=hs.foldl (λL h=>push L (.ne h) x) L
theorem pushAll_nil (L:Ow->List Nat)(x:Nat):pushAll L [] x = L:=rfl
theorem pushAll_more (L:Ow->List Nat)(hs:List (List UInt8))(h:List UInt8)(x:Nat):pushAll L (hs ++ [h]) x = push (pushAll L hs x) (.ne h) x:=by
 unfold pushAll;rw [List.foldl_append]
 rfl
theorem push_ne_al (L:Ow->List Nat)(h l:List UInt8)(x:Nat):push L (.ne h) x (.al l) = L (.al l):=push_other _ _ (λe=>by cases e)
theorem push_ne_fr (L:Ow->List Nat)(h:List UInt8)(x:Nat):push L (.ne h) x .fr = L .fr:=push_other _ _ (λe=>by cases e)
theorem pushAll_al (x:Nat)(l:List UInt8):∀ (hs:List (List UInt8)) (L:Ow->List Nat),pushAll L hs x (.al l) = L (.al l)
 | [],_=>rfl
 | h :: hs,L=>(pushAll_al x l hs (push L (.ne h) x)).trans (push_ne_al L h l x)
theorem pushAll_fr (x:Nat):∀ (hs:List (List UInt8)) (L:Ow->List Nat),pushAll L hs x .fr = L .fr
 | [],_=>rfl
 | h :: hs,L=>(pushAll_fr x hs (push L (.ne h) x)).trans (push_ne_fr L h x)
theorem pushAll_ne (x:Nat)(l:List UInt8)(i:Nat):∀ (hs:List (List UInt8)) (L:Ow->List Nat),(pushAll L hs x (.ne l)).count i = (L (.ne l)).count i + if i = x then hs.count l else 0
 | [],L=>by simp [pushAll]
 | h :: hs,L=>by
  have:=pushAll_ne x l i hs (push L (.ne h) x);show(pushAll (push L (.ne h) x) hs x (.ne l)).count i = _;rw [this]
  by_cases he:l = h
  ·subst he
   rw [push_same,List.count_append,List.count_singleton,List.count_cons_self]
   by_cases hi:i = x
   ·subst hi
    simp
    omega
   ·have:(x == i) = false:=by simpa using λe=>hi (by rw [e])
    simp [hi,this]
  ·rw [push_other _ _ (λe=>he (by cases e; rfl)),List.count_cons_of_ne (λe=>he e.symm)]
noncomputable def grownL (L:Ow->List Nat) (f:List (List UInt8) × List (List UInt8)) (n:Nat):Ow->List Nat:=
 if f.1.length = 0 then push (push L (.al (dig f)) n) .fr n else push L (.al (dig f)) n
theorem Bok.more {w w':World}{base bb b b':Nat}{fs:List (List (List UInt8) × List (List UInt8))}{nmf nmf':Lit->Option Value}{S S':BokS}{f:List (List UInt8) × List (List UInt8)}(h:Bok w base bb fs b nmf S)(hm:Bom w' base bb (fs ++ [f]) b' nmf' S')(hL:S'.L = pushAll (grownL S.L f fs.length) f.1 fs.length):Bok w' base bb (fs ++ [f]) b' nmf' S':=by
 have lal:∀ l,S'.L (.al l) = push S.L (.al (dig f)) fs.length (.al l):=λl=>by
  rw [hL,pushAll_al];unfold grownL
  split
  ·exact push_other _ _ (λe=>by cases e)
  ·rfl
 have lfr:S'.L .fr = if f.1.length = 0 then S.L .fr ++ [fs.length] else S.L .fr:=by
  rw [hL,pushAll_fr];unfold grownL
  split
  ·rw [push_same,push_other _ _ (λe=>by cases e)]
  ·exact push_other _ _ (λe=>by cases e)
 have lne:∀ l,grownL S.L f fs.length (.ne l) = S.L (.ne l):=λl=>by
  unfold grownL
  split
  ·rw [push_other _ _ (λe=>by cases e),push_other _ _ (λe=>by cases e)]
  ·exact push_other _ _ (λe=>by cases e)
 refine⟨hm.cells,hm.lowb,hm.lowa,hm.lown,hm.lowm,hm.an,hm.amm,hm.nmm,hm.facts,hm.alike,hm.need,hm.names,hm.row,hm.sep,λi=>?_,λl i=>?_,λl i hi=>?_,λi hi=>?_,hm.few⟩
 ·rw [lfr]
  rcases Nat.lt_trichotomy i fs.length with h1 | h1 | h1
  ·rw [List.getElem?_append_left h1,<- h.free i]
   split
   ·rw [List.mem_append,List.mem_singleton]
    exact⟨λh2=>h2.elim id (λe=>by omega),.inl⟩
   ·exact Iff.rfl
  ·subst h1
   rw [List.getElem?_append_right (Nat.le_refl _),Nat.sub_self]
   have hno:fs.length∉S.L .fr:=λhx=>by
    obtain⟨g,hg,_⟩:=(h.free _).1 hx;rw [List.getElem?_eq_none (Nat.le_refl _)] at hg
    cases hg
   split
   ·rename_i h0
    exact⟨λ_=>⟨f,rfl,List.length_eq_zero_iff.1 h0⟩,λ_=>by simp⟩
   ·rename_i h0
    refine⟨λhx=>absurd hx hno,?_⟩
    rintro ⟨g,hg,h2⟩
    cases hg
    rw [h2] at h0;exact absurd rfl h0
  ·have hnone:(fs ++ [f])[i]? = none:=List.getElem?_eq_none (by simp; omega)
   rw [hnone]
   have hno:i∉S.L .fr:=λhx=>by
    obtain⟨g,hg,_⟩:=(h.free _).1 hx;rw [List.getElem?_eq_none (by omega)] at hg
    cases hg
   refine⟨λhx=>?_,λ⟨g,hg,_⟩=>by cases hg⟩
   split at hx
   ·rw [List.mem_append,List.mem_singleton] at hx
    rcases hx with h2 | h2
    ·exact absurd h2 hno
    ·omega
   ·exact absurd hx hno
 ·rw [hL,pushAll_ne,lne,h.needed]
  unfold needs
  rcases Nat.lt_trichotomy i fs.length with h1 | h1 | h1
  ·rw [List.getElem?_append_left h1,if_neg (by omega)]
   rfl
  ·subst h1
   rw [List.getElem?_append_right (Nat.le_refl _),Nat.sub_self,if_pos rfl,List.getElem?_eq_none (Nat.le_refl _)];simp
  ·rw [List.getElem?_eq_none (by omega),List.getElem?_eq_none (by simp; omega),if_neg (by omega)]
 ·rw [lal] at hi
  rw [List.length_append,List.length_singleton]
  by_cases he:Ow.al l = Ow.al (dig f)
  ·rw [he,push_same,List.mem_append,List.mem_singleton] at hi
   rcases hi with h2 | h2
   ·exact Nat.lt_succ_of_lt (h.same _ i h2)
   ·omega
  ·rw [push_other _ _ he] at hi
   exact Nat.lt_succ_of_lt (h.same _ i hi)
 ·rw [lal]
  rw [List.length_append,List.length_singleton] at hi
  rcases Nat.lt_or_ge i fs.length with h1 | h1
  ·rw [List.getElem_append_left h1]
   by_cases he:Ow.al (dig fs[i]) = Ow.al (dig f)
   ·rw [he,push_same,<- Ow.al.inj he]
    exact List.mem_append_left _ (h.found i h1)
   ·rw [push_other _ _ he]
    exact h.found i h1
  ·obtain rfl:i = fs.length:=by omega
   have e2:(fs ++ [f])[fs.length] = f:=by rw [List.getElem_append_right (Nat.le_refl _)]; simp
   rw [e2,push_same];simp
theorem add_calls (base bb n:Nat)(fs:List (List (List UInt8) × List (List UInt8)))(nmf:Lit->Option Value)(S:BokS)(f:List (List UInt8) × List (List UInt8))(a b:Value)(w:World)(hB:Bok w base bb fs n nmf S)(hbase:base<=w.heap.size)(ha:Hs w a f.1)(hb:Hs w b f.2)(hna:Whole a)(hnb:Whole b)(hstay:∀ w',BkFr base w w'->Hs w' a f.1)(hn:n < 1000000)(hfs:fs.length < 1000000)(h1:f.1.length < 1000000)(h2:f.2.length < 1000000)(hX:∀ k,S.X k->k < w.heap.size):
  Calls Try.prog 92 #[.pointer (some ⟨bb,0,none⟩),.agg #[a,b],.agg (bcells (dig f)).toArray] w λe w'=>e = .returned (.tuple #[])/\(∃ S',S'.X = S.X/\Bok w' base bb (fs ++ [f]) (n + f.1.length + 2) nmf S')/\BkFr base w w':=by
 have ha0:=ha;have hb0:=hb;have HXS:=hid hX;clear hX;obtain⟨a32,aad,ag,ao,ac,rfl,hac⟩:=ha0;obtain⟨zp1,bad,bg,bo,bc,rfl,zp2⟩:=hb0;clear zp1 zp2;have hd32:(dig f).length = 32:=by rw [dig]; exact sum_length _
 obtain⟨fad,fg,fo,fc,hfv,hlk⟩:=hB.looks;have hM:=hB.mem;have c0:=cells_get (j:=0) hM.cells rfl
 have hown:∀ k,S.fv.ownBlock = some k->k < w.heap.size:=λk hk=>by
  obtain⟨ps,_,ho,_⟩:=hM.facts;exact(ho.lt k hk).2
 have hbbw:=lt_of_block hM.cells
 have hac2:∀ w',BkFr base w w'->∀ (i:Nat) (hi:i < f.1.length),aad = some ⟨ag,ao,none⟩/\w'.rangeAt ag (ao + i * 32) (bcells f.1[i]):=λw' hw i hi=>by
  obtain⟨_,ad2,g2,o2,c2,he,hc⟩:=hstay w' hw;injection he with e1
  obtain⟨h3,_,_⟩:=hac i hi;obtain⟨h4,_,h5⟩:=hc i hi;rw [<- e1,h3] at h4
  cases h4
  exact⟨h3,h5⟩
 obtain⟨D,hD⟩:∃ D,D = dig f:=⟨_,rfl⟩;have hDD:=hD;rw [<- hD] at hd32;rw [<- hD];obtain⟨bl,hbl⟩:∃ bl,bl = bcells D:=⟨_,rfl⟩;have hbl32:bl.length = 32:=by rw [hbl,bcells_length,hd32]
 rw [<- hbl];have HA:=hid ha;have HB:=hid hb;have HBOK:=hid hB;have HM:=hid hM;have HC0:=hid c0;have HOWN:=hid hown;have HAC:=hid hac2;have H32:=hid a32;have HBL:=hid hbl;have HDD:=hid hDD;have HD32:=hid hd32;have HNA:=hid hna;have HNB:=hid hnb;have HBASE:=hid hbase;have HBBW:=hid hbbw;clear ha hb hB hM c0 hown hac hac2 a32 hbl hDD hD hd32 hna hnb hbase hstay hlk hbbw
 go_enter Try.func92,Try.ntmps92
 go_upto_region 1 with fail
 have hX:((w.alloc (.cells #[.slice aad f.1.length ac,.slice bad f.2.length bc] 122)).alloc (.cells bl.toArray 26)).heap[w.heap.size]? = some (.cells #[.slice aad f.1.length ac,.slice bad f.2.length bc] 122 (0,0)):=heap_alloc2_old w _ _
 have hR:((w.alloc (.cells #[.slice aad f.1.length ac,.slice bad f.2.length bc] 122)).alloc (.cells bl.toArray 26)).heap[w.heap.size + 1]? = some (.cells bl.toArray 26 (0,0)):=heap_alloc2_last w _ _
 have k1:Kept w.heap.size w.heap.size w ((w.alloc (.cells #[.slice aad f.1.length ac,.slice bad f.2.length bc] 122)).alloc (.cells bl.toArray 26)):=((Kept.refl _ _ _).alloc (Nat.le_refl _) _).alloc (by simp) _
 have s1:((w.alloc (.cells #[.slice aad f.1.length ac,.slice bad f.2.length bc] 122)).alloc (.cells bl.toArray 26)).heap.size = w.heap.size + 2:=by simp
 generalize (w.alloc (.cells #[.slice aad f.1.length ac,.slice bad f.2.length bc] 122)).alloc (.cells bl.toArray 26) = w1 at hX hR k1 s1 |-
 obtain⟨wa,hwa⟩:∃ wa,wa = w.heap.size:=⟨_,rfl⟩;have kw1:=k1;rw [<- hwa] at hX hR k1 s1 |-;have HK1:=hid kw1;have HX:=hid hX;have HR:=hid hR;have HS1:=hid s1;have HWA:=hid hwa
 have hc0:w1.cell? ⟨bb,0,none⟩ = some (.slice fad fs.length fc):=by
  rw [<- hfv];exact(kw1.cell (p:=⟨bb,0,none⟩) HBBW.out (Nat.ne_of_lt HBBW.out)).trans HC0.out
 have HC1:=hid hc0;clear hX hR k1 s1 kw1 hwa
 go_upto_region 2 with fail
 have hS:∀ w',Kept w1.heap.size w1.heap.size w1 w'->(w'.cell? ⟨bb,0,none⟩ = some (.slice fad fs.length fc)/\w'.cell? ⟨wa,0,none⟩ = some (.slice aad f.1.length ac)/\w'.cell? ⟨wa,1,none⟩ = some (.slice bad f.2.length bc)):=λw' kk=>by
  have h8:=(kk.block wa (by have:=HS1.out; omega) (by have:=HS1.out; omega)).trans HX.out
  refine⟨(kk.cell (p:=⟨bb,0,none⟩) ?_ ?_).trans HC1.out,two_cell0 h8,two_cell1 h8⟩
  ·show bb < w1.heap.size
   have:=HS1.out;have:=HBBW.out;have:=HWA.out
   omega
  ·show bb≠w1.heap.size
   have:=HS1.out;have:=HBBW.out;have:=HWA.out
   omega
 have HSS:=hid hS;clear hS hc0;have KD:Kept w1.heap.size w1.heap.size w1 w1.drew:=(Kept.refl _ _ _).drew;refine wp_region_noPanic ?_;refine wp_region_heldTo 16 (S:=λw'=>w'.cell? ⟨bb,0,none⟩ = some (.slice fad fs.length fc)/\w'.cell? ⟨wa,0,none⟩ = some (.slice aad f.1.length ac)/\w'.cell? ⟨wa,1,none⟩ = some (.slice bad f.2.length bc)) (by kernel_rfl) (HSS.out _ KD) (λhH=>?_)
 refine tkT (i:=0) 14 (.pointer (some ⟨bb,0,none⟩)) rfl (.inl ⟨by rfl,λw9 h9=>by obtain⟨q0,q1,q2⟩:=h9; go_simp⟩) hH ?_
 simp only [sA,sB,sC];refine tkT (i:=1) 15 (.pointer (some ⟨bb,0,none⟩)) rfl (.inl ⟨by rfl,λw9 h9=>by obtain⟨q0,q1,q2⟩:=h9; go_simp⟩) hH ?_
 simp only [sA,sB,sC];refine tkT (i:=2) 16 (.pointer (some ⟨bb,0,none⟩)) rfl (.inl ⟨by rfl,λw9 h9=>by obtain⟨q0,q1,q2⟩:=h9; go_simp⟩) hH ?_
 simp only [sA,sB,sC];refine tkT (i:=3) 17 (.pointer (some ⟨bb,0,none⟩)) rfl (.inl ⟨by rfl,λw9 h9=>by obtain⟨q0,q1,q2⟩:=h9; go_simp⟩) hH ?_
 simp only [sA,sB,sC];refine tkT (i:=4) 18 (.slice fad fs.length fc) rfl (.inl ⟨by rfl,λw9 h9=>by obtain⟨q0,q1,q2⟩:=h9; go_simp⟩) hH ?_
 simp only [sA,sB,sC];refine tkT (i:=5) 19 (.pointer (some ⟨wa,0,none⟩)) rfl (.inl ⟨by rfl,λw9 h9=>by obtain⟨q0,q1,q2⟩:=h9; go_simp⟩) hH ?_
 simp only [sA,sB,sC];refine tkT (i:=6) 20 (.slice aad f.1.length ac) rfl (.inl ⟨by rfl,λw9 h9=>by obtain⟨q0,q1,q2⟩:=h9; go_simp⟩) hH ?_
 simp only [sA,sB,sC];refine tkT (i:=8) 22 (.pointer (some ⟨wa,1,none⟩)) rfl (.inl ⟨by rfl,λw9 h9=>by obtain⟨q0,q1,q2⟩:=h9; go_simp⟩) hH ?_
 simp only [sA,sB,sC];refine tkT (i:=9) 23 (.slice bad f.2.length bc) rfl (.inl ⟨by rfl,λw9 h9=>by obtain⟨q0,q1,q2⟩:=h9; go_simp⟩) hH ?_
 simp only [sA,sB,sC];have ca1:=λ(w':World) (kk:Kept w1.heap.size w1.heap.size w1 w')=>clone_calls f.1 _ w' ((HA.out.kept HK1.out).kept kk) HNA.out h1
 have ca2:=λ(w':World) (kk:Kept w1.heap.size w1.heap.size w1 w')=>clone_calls f.2 _ w' ((HB.out.kept HK1.out).kept kk) HNB.out h2
 have CA1:=hid ca1;have CA2:=hid ca2;clear ca1 ca2;refine heldTo_one (i:=7) (by kernel_rfl) rfl (λK hK=>?_)
 rw [if_pos (by rfl)]
 go_simp
 go_wp2_with (go_at_call 108; refine(CA1.out _ KD).mono ?_; rintro e w5 ⟨u1,rfl,o1,k5⟩)
 have K5:Kept w1.heap.size w1.heap.size w1 w5:=KD.trans (k5.mono KD.size (λk hk _=>Nat.ne_of_lt (Nat.lt_of_lt_of_le hk KD.size)))
 have O1:Hid (OwnH w5 w1.heap.size u1 f.1):=hid (o1.mono KD.size);clear k5 o1;refine hK.out _ _ (HSS.out _ K5) (λhH=>?_)
 clear hK K;refine heldTo_one (i:=10) (by kernel_rfl) rfl (λK hK=>?_)
 rw [if_pos (by rfl)]
 go_simp
 go_wp2_with (go_at_call 108; refine(CA2.out _ K5).mono ?_; rintro e w6 ⟨u2,rfl,o2,k6⟩)
 have K6:Kept w1.heap.size w1.heap.size w1 w6:=K5.trans (k6.mono K5.size (λk hk _=>Nat.ne_of_lt (Nat.lt_of_lt_of_le hk K5.size)))
 have O2:Hid (OwnH w6 w1.heap.size u2 f.2):=hid (o2.mono K5.size);have O1':Hid (OwnH w6 w1.heap.size u1 f.1):=hid (O1.out.kept k6 (Nat.le_refl _));clear k6 o2 O1;refine hK.out _ _ (HSS.out _ K6) (λhH=>?_)
 clear hK K;obtain⟨q1,uad,ug,uo,uc,rfl,q2⟩:=O1'.out.hs;clear q1 q2;obtain⟨q1,vad,vg,vo,vc,rfl,q2⟩:=O2.out.hs;clear q1 q2;refine tkT (i:=11) 25 (.agg #[.slice uad f.1.length uc,.slice vad f.2.length vc]) rfl (.inl ⟨by rfl,λw9 _=>by go_simp⟩) hH ?_
 simp only [sA,sB,sC];refine heldTo_one (i:=12) (by kernel_rfl) rfl (λK hK=>?_)
 rw [if_pos (by rfl)]
 go_simp;have K7:=K6.alloc K6.size (.cells #[.slice uad f.1.length uc,.slice vad f.2.length vc] 122)
 have hN7:(w6.alloc (.cells #[.slice uad f.1.length uc,.slice vad f.2.length vc] 122)).heap[w6.heap.size]? = some (.cells #[.slice uad f.1.length uc,.slice vad f.2.length vc] 122 (0,0)):=heap_new _ _
 have O1a:=hid (O1'.out.alloc (.cells #[.slice uad f.1.length uc,.slice vad f.2.length vc] 122))
 have O2a:=hid (O2.out.alloc (.cells #[.slice uad f.1.length uc,.slice vad f.2.length vc] 122))
 refine hK.out _ _ (HSS.out _ K7) (λhH=>?_)
 clear hK K;have KW7:=HK1.out.trans (K7.mono (by have:=HS1.out; have:=HWA.out; omega) (λk hk _=>by have:=HS1.out; have:=HWA.out; omega))
 have L7:w6.heap.size < (w6.alloc (.cells #[.slice uad f.1.length uc,.slice vad f.2.length vc] 122)).heap.size:=lt_of_block hN7
 generalize w6.alloc (.cells #[.slice uad f.1.length uc,.slice vad f.2.length vc] 122) = w7 at K7 hN7 O1a O2a hH KW7 L7 |-
 have M7:=HM.out.kept KW7;have b1:base<=w1.heap.size:=by have:=HS1.out; have:=HWA.out; have:=HBASE.out; omega
 have b7:base<=w7.heap.size:=Nat.le_trans b1 K7.size;obtain⟨v',w8,hr8,hO8,hg8⟩:=append_factB w7 base S.X S.fv fs M7.facts b7 w6.heap.size 1 _ _ f (O1a.out.mono b1) (O2a.out.mono b1) (λk hk hx=>by have:=(O1a.out.low k hk).1; have:=HXS.out k hx; have:=HS1.out; have:=HWA.out; omega) (λk hk hx=>by have:=(O2a.out.low k hk).1; have:=HXS.out k hx; have:=HS1.out; have:=HWA.out; omega) (two_cell0 hN7) (two_cell1 hN7) (by omega)
 obtain⟨hbb8,M9,F9,keep9⟩:=M7.facts_put b7 hO8 hg8;obtain⟨xad,xg,xc,hxs,zp⟩:=hO8.at;clear zp;rw [List.length_append,List.length_singleton] at hxs;subst hxs;have X7:=(K7.block wa (by have:=HS1.out; omega) (by have:=HS1.out; omega)).trans HX.out
 have R7:=(K7.block (wa + 1) (by have:=HS1.out; omega) (by have:=HS1.out; omega)).trans HR.out
 have nwa:S.fv.ownBlock≠some wa:=λe=>by have:=HOWN.out wa e; have:=HWA.out; omega
 have nwb:S.fv.ownBlock≠some (wa + 1):=λe=>by have:=HOWN.out _ e; have:=HWA.out; omega
 have wab:wa≠bb:=by have:=HBBW.out; have:=HWA.out; omega
 have wbb:wa + 1≠bb:=by have:=HBBW.out; have:=HWA.out; omega
 have X8:w8.heap[wa]? = some (.cells #[.slice aad f.1.length ac,.slice bad f.2.length bc] 122 (0,0)):=(hg8.block wa (lt_of_block X7) (λe=>nwa e.symm)).trans X7
 have S8:w8.cell? ⟨bb,0,none⟩ = some (.slice fad fs.length fc)/\w8.cell? ⟨wa,0,none⟩ = some (.slice aad f.1.length ac)/\w8.cell? ⟨wa,1,none⟩ = some (.slice bad f.2.length bc):=⟨by
  have:=cells_get (j:=0) (hbb8.trans M7.cells) rfl;rw [hfv] at this
  exact this,two_cell0 X8,two_cell1 X8⟩
 have X9:=keep9 _ _ X7 nwa wab;have R9:=keep9 _ _ R7 nwb wbb
 have z8:w8.frozen? ⟨bb,0,none⟩ = false:=by
  have h9:=hbb8.trans M7.cells;simp [World.frozen?,h9]
 rw [hfv] at hr8;have HR8:=hid hr8;have HM9:=hid M9;have HF9:=hid F9;have HX9:=hid X9;have HR9:=hid R9;have HKW7:=hid KW7;have Z8:=hid z8;clear hr8 hO8 hg8 hbb8 M9 F9 keep9 X7 R7 nwa nwb X8 X9 R9 KW7 M7 hN7 O1a O2a z8;refine heldTo_one (i:=13) (by kernel_rfl) rfl (λK hK=>?_)
 rw [if_pos (by rfl)]
 refine wp_append_run' _ _ 83 83 83 rfl rfl (.slice fad fs.length fc) (.slice (some ⟨w6.heap.size,0,none⟩) 1 1) rfl rfl HR8.out ?_
 simp only [Act.put,List.setIfInBounds_toArray];refine hK.out _ _ S8 (λhH=>?_)
 clear hK K;refine heldTo_one (i:=14) (by kernel_rfl) rfl (λK hK=>?_)
 rw [if_pos (by rfl)]
 go_simp;refine hK.out _ _ S8 (λhH=>?_)
 clear hK K;refine heldTo_one (i:=15) (by kernel_rfl) rfl (λK hK=>?_)
 rw [if_pos (by rfl)]
 go_simp;refine hK.out _ _ S8 (λhH=>?_)
 clear hK K;have r8:=S8.1;have z8:=Z8.out;refine heldTo_last (by kernel_rfl) rfl (λK hK=>?_)
 rw [if_pos (by rfl)]
 go_simp;refine hK.out _ _ (heldTo_done (by kernel_rfl) ?_ _)
 clear hK K r8 z8 S8 hH;have W9:w1.heap.size<=(w8.setCell ⟨bb,0,none⟩ (.slice xad (fs.length + 1) xc)).heap.size:=Nat.le_trans K7.size HF9.out.kept.size;generalize w8.setCell ⟨bb,0,none⟩ (.slice xad (fs.length + 1) xc) = w9 at HM9 HF9 HX9 HR9 W9 |-;refine NoPanic.normal ?_
 go_upto_region 3 with fail
 obtain⟨S9,hS9⟩:∃ S9:BokS,S9 = { S with fv:=.slice xad (fs.length + 1) xc }:=⟨_,rfl⟩
 have e9am:S9.am = S.am:=by rw [hS9]
 have e9L:S9.L = S.L:=by rw [hS9]
 have e9X:S9.X = S.X:=by rw [hS9]
 rw [<- hS9] at HM9;clear hS9;obtain⟨wd,hwd⟩:∃ wd,wd = w9.drew:=⟨_,rfl⟩;have KD9:Kept w9.heap.size w9.heap.size w9 wd:=by rw [hwd]; exact(Kept.refl _ _ _).drew
 have KA:=KD9.alloc KD9.size (.cells #[.int .i64 ((fs.length:Nat):Int)] 3)
 have hXA:(wd.alloc (.cells #[.int .i64 ((fs.length:Nat):Int)] 3)).heap[wd.heap.size]? = some (.cells #[.int .i64 ((fs.length:Nat):Int)] 3 (0,0)):=heap_new _ _
 have MA:=HM9.out.kept KA;have hlt9:wa + 1 < w9.heap.size:=lt_of_block HR9.out;have hbb9:bb < w9.heap.size:=lt_of_block HM9.out.cells;have base9:base<=w9.heap.size:=by have:=HWA.out; have:=HBASE.out; omega
 have hS3:∀ (w':World),w'.heap[bb]? = w9.heap[bb]?->w'.heap[wa + 1]? = w9.heap[wa + 1]?->(w'.cell? ⟨bb,1,none⟩ = some (.map (some S9.am))/\w'.rangeAt (wa + 1) 0 bl):=λw' h3 h4=>by
  refine⟨cells_get (j:=1) (h3.trans HM9.out.cells) rfl,?_⟩;have:=World.rangeAt_of_block (h4.trans HR9.out) 0 32
  rwa [show(bl.toArray.extract 0 (0 + 32)).toList = bl by
   rw [Array.toList_extract,List.extract_eq_take_drop,List.drop_zero]
   exact List.take_of_length_le (by show bl.length<=_; omega)] at this
 have SA:=hS3 _ (KA.block bb hbb9 (Nat.ne_of_lt hbb9)) (KA.block (wa + 1) hlt9 (Nat.ne_of_lt hlt9));have SD:=hS3 _ (KD9.block bb hbb9 (Nat.ne_of_lt hbb9)) (KD9.block (wa + 1) hlt9 (Nat.ne_of_lt hlt9));have hRA:=(KA.block (wa + 1) hlt9 (Nat.ne_of_lt hlt9)).trans HR9.out;have hXw:=(KA.block wa (by omega) (by omega)).trans HX9.out
 have FA:BkFr base w9 (wd.alloc (.cells #[.int .i64 ((fs.length:Nat):Int)] 3)):=BkFr.ofKept base9 KA
 have WA:w9.heap.size<=(wd.alloc (.cells #[.int .i64 ((fs.length:Nat):Int)] 3)).heap.size:=KA.size
 obtain⟨st,w11,r11,f11,v12,w12,r12,f12,w13,r13,f13,M13⟩:=MA.entry_al (Nat.le_trans base9 WA) (by omega) D HD32.out fs.length wd.heap.size 1 hXA
 have cbb:bb≠S9.am:=HM9.out.alike.ne HM9.out.cells;have car:wa + 1≠S9.am:=HM9.out.alike.ne HR9.out;have caw:wa≠S9.am:=HM9.out.alike.ne HX9.out;have hbbA:=(KA.block bb hbb9 (Nat.ne_of_lt hbb9)).trans HM9.out.cells;have S11:=hS3 w11 ((f11.oth bb _ hbbA (λ_ _ e=>by cases e) cbb).trans HM9.out.cells.symm) ((f11.oth _ _ hRA (λ_ _ e=>by cases e) car).trans HR9.out.symm)
 have S12:=hS3 w12 ((f12.oth bb _ hbbA (λ_ _ e=>by cases e) cbb).trans HM9.out.cells.symm) ((f12.oth _ _ hRA (λ_ _ e=>by cases e) car).trans HR9.out.symm)
 have X13:=f13.oth _ _ hXw (λ_ _ e=>by cases e) caw
 have F13:=FA.trans (f13.bk MA.alike.map);have W13:w9.heap.size<=w13.heap.size:=Nat.le_trans WA f13.kept.size;rw [<- HBL.out] at r11;obtain⟨S13,hS13⟩:∃ S13:BokS,S13 = { S9 with fa:=upd S9.fa (.string D) v12,L:=push S9.L (.al D) fs.length }:=⟨_,rfl⟩
 rw [<- hS13] at M13;have e13:S13.L = push S.L (.al D) fs.length:=by rw [hS13,<- e9L]
 have e13X:S13.X = S.X:=by rw [hS13,<- e9X]
 have HSX:=hid e13X;clear e13X e9X;clear hS13;generalize S9.val (.al D) = vA at r11 r12;generalize goInt st = gst at r11 r13;have R11:=hid r11;have R12:=hid r12;have R13:=hid r13;have HM13:=hid M13;have HX13:=hid X13;have HF13:=hid (HF9.out.trans F13);have HSA:=hid SA;have HS11:=hid S11;have HS12:=hid S12;have hia:(Try.prog.info? 26).map (·.size) = some bl.length:=by rw [hbl32]; kernel_rfl
 have HIA:=hid hia;have HL13:=hid e13;have HW13:=hid (Nat.le_trans W9 W13);generalize S9.am = sam at *;clear r11 r12 r13 M13 X13 F13 SA S11 S12 hia f11 f12 f13 KD9 KA hXA MA hlt9 hbb9 base9 hS3 hRA hXw FA WA cbb car caw hbbA e9L W13 W9 e13 e9am HF9 HM9 HX9 HR9;refine wp_region_noPanic ?_;refine wp_region_heldTo 11 (S:=λw'=>w'.cell? ⟨bb,1,none⟩ = some (.map (some sam))/\w'.rangeAt (wa + 1) 0 bl) (by kernel_rfl) (by rw [<- hwd]; exact SD) (λhH=>?_)
 rw [<- hwd] at hH |-;clear SD hwd;refine tkT (i:=0) 30 (.pointer (some ⟨bb,0,none⟩)) rfl (.inl ⟨by rfl,λw9 h9=>by have q0:=h9.1; go_simp⟩) hH ?_
 simp only [sA,sB,sC];refine tkT (i:=1) 31 (.pointer (some ⟨bb,0,none⟩)) rfl (.inl ⟨by rfl,λw9 h9=>by have q0:=h9.1; go_simp⟩) hH ?_
 simp only [sA,sB,sC];refine tkT (i:=2) 32 (.pointer (some ⟨bb,1,none⟩)) rfl (.inl ⟨by rfl,λw9 h9=>by have q0:=h9.1; go_simp⟩) hH ?_
 simp only [sA,sB,sC];refine tkT (i:=3) 33 (.map (some sam)) rfl (.inl ⟨by rfl,λw9 h9=>by have q0:=h9.1; go_simp⟩) hH ?_
 simp only [sA,sB,sC];refine tkT (i:=4) 34 (.agg bl.toArray) rfl (yieldsIf_load_mid (by rfl) 26 _ rfl (wa + 1) 0 rfl bl _ (λ_ h=>h.2) Try.underlying26 rfl HIA.out) hH ?_
 simp only [sA,sB,sC];refine tkT (i:=5) 36 (.int .i64 (fs.length:Int)) rfl (.inl ⟨by rfl,λw9 h9=>by have q0:=h9.1; go_simp⟩) hH ?_
 simp only [sA,sB,sC];refine heldTo_one (i:=6) (by kernel_rfl) rfl (λK hK=>?_)
 rw [if_pos (by rfl)]
 go_simp;refine hK.out _ _ HSA.out (λhH=>?_)
 clear hK K;refine heldTo_one (i:=7) (by kernel_rfl) rfl (λK hK=>?_)
 rw [if_pos (by rfl)]
 refine wp_entry_run _ _ 81 rfl (.map (some sam)) (.agg bl.toArray) rfl rfl R11.out ?_
 simp only [Act.put,List.setIfInBounds_toArray];refine hK.out _ _ HS11.out (λhH=>?_)
 clear hK K;refine tkT (i:=8) 35 (vA) rfl (.inl ⟨by rfl,λw9 h9=>by have q0:=h9.1; go_simp⟩) hH ?_
 simp only [sA,sB,sC];refine tkT (i:=10) 40 (gst) rfl (.inl ⟨by rfl,λw9 h9=>by have q0:=h9.1; go_simp⟩) hH ?_
 simp only [sA,sB,sC];refine heldTo_one (i:=9) (by kernel_rfl) rfl (λK hK=>?_)
 rw [if_pos (by rfl)]
 refine wp_append_run' _ _ 58 58 58 rfl rfl vA (.slice (some ⟨wd.heap.size,0,none⟩) 1 1) rfl rfl R12.out ?_
 simp only [Act.put,List.setIfInBounds_toArray];refine hK.out _ _ HS12.out (λhH=>?_)
 clear hK K;refine heldTo_last (by kernel_rfl) rfl (λK hK=>?_)
 rw [if_pos (by rfl)]
 refine wp_store_run _ _ _ 81 rfl (.map (some sam)) gst v12 rfl rfl rfl R13.out ?_
 simp only [Act.put];refine hK.out _ _ (heldTo_done (by kernel_rfl) ?_ _)
 clear hK K hH R11 R12 R13 HSA HS11 HS12;refine NoPanic.normal ?_;simp only [List.getElem_toArray,List.getElem_cons_succ,List.getElem_cons_zero,List.set_cons_zero,List.set_cons_succ]
 go_upto_region 4 with fail
 have x13:=two_cell0 HX13.out;have HW7:Hid (BkFr base w w13):=hid ((BkFr.ofKept HBASE.out HKW7.out).trans HF13.out);obtain⟨FS,hFS⟩:∃ FS,FS = fs ++ [f]:=⟨_,rfl⟩;have HFS:=hid hFS
 have hfin:∀ (w':World) (b':Nat) (S':BokS),Bom w' base bb FS b' nmf S'->b'<=n + f.1.length + 2->S'.L = pushAll (grownL S.L f fs.length) f.1 fs.length->S'.X = S.X->BkFr base w w'->(∃ S',S'.X = S.X/\Bok w' base bb (fs ++ [f]) (n + f.1.length + 2) nmf S')/\BkFr base w w':=λw' b' S' hm hb hl hx hf=>by
  rw [hFS] at hm;exact⟨⟨S',hx,HBOK.out.more (hm.mono hb) hl⟩,hf⟩
 have HFIN:=hid hfin;rw [<- hFS] at HM13;clear hFS hfin HF13 HKW7 HBOK HM
 by_cases hz:f.1.length = 0
 ·have hd:((f.1.length:Int) == 0) = true:=by rw [beq_iff_eq]; omega
  have hd1:decide ((f.1.length:Int) = 0) = true:=decide_eq_true (by omega)
  have hd2:decide ((0:Int) < (f.1.length:Int)) = false:=decide_eq_false (by omega)
  have hg:grownL S.L f fs.length = push S13.L .fr fs.length:=by unfold grownL; rw [if_pos hz,<- HDD.out,HL13.out]
  obtain⟨rad,rg,rc,hrv,zp⟩:=(HM13.out.row .fr).shape;clear zp;obtain⟨rn,hrn⟩:∃ rn,rn = (S13.L .fr).length:=⟨_,rfl⟩;rw [<- hrn] at hrv;have hrv2:S13.frv = .slice rad rn rc:=hrv
  have c3:w13.cell? ⟨bb,3,none⟩ = some (.slice rad rn rc):=by
   have:=cells_get (j:=3) HM13.out.cells rfl;rw [hrv2] at this;exact this
  have KB:Kept w13.heap.size w13.heap.size w13 (w13.alloc (.cells #[.int .i64 ((fs.length:Nat):Int)] 3)):=(Kept.refl _ _ _).alloc (Nat.le_refl _) _
  have hXB:(w13.alloc (.cells #[.int .i64 ((fs.length:Nat):Int)] 3)).heap[w13.heap.size]? = some (.cells #[.int .i64 ((fs.length:Nat):Int)] 3 (0,0)):=heap_new _ _
  have MB:=HM13.out.kept KB;have base13:base<=w13.heap.size:=Nat.le_trans HBASE.out HW7.out.kept.size;have hwa13:=lt_of_block HX13.out;obtain⟨v14,w14,r14,⟨zad,zn,zc,rfl⟩,hbb14,M14,F14,keep14⟩:=MB.free_put (Nat.le_trans base13 KB.size) (by omega) fs.length w13.heap.size 1 hXB
  rw [hrv2] at r14;have hcB:=hbb14.trans MB.cells
  have c14:w14.cell? ⟨bb,3,none⟩ = some (.slice rad rn rc):=by
   have:=cells_get (j:=3) hcB rfl;rw [hrv2] at this;exact this
  have z14:w14.frozen? ⟨bb,3,none⟩ = false:=by simp [World.frozen?,hcB]
  have X14:=keep14 wa _ ((KB.block wa hwa13 (Nat.ne_of_lt hwa13)).trans HX13.out) (λ_ _ e=>by cases e) wab
  have x14:=two_cell0 X14;have res:=HFIN.out _ _ _ M14 (by omega) (by rw [List.length_eq_zero_iff.1 hz,pushAll_nil,hg]) HSX.out (HW7.out.trans ((BkFr.ofKept base13 KB).trans F14))
  have HRES:=hid res;have R14:=hid r14;clear hg hrv hrv2 hrn KB hXB MB base13 hwa13 r14 hbb14 M14 F14 keep14 hcB X14 res HL13 HM13 HX13 HW7
  go_wp2_with (with_reducible refine wpList_append_known rfl _ _ 58 58 58 rfl rfl (.slice rad rn rc) (.slice (some ⟨w13.heap.size,0,none⟩) 1 1) rfl rfl R14.out ?_)
  go_loopw [58] (λs58 w9=>s58 = .int .i64 0/\w9 = w14.setCell ⟨bb,3,none⟩ (.slice zad zn zc)) (λ_ _=>0)
  case atStart=>exact⟨rfl,rfl⟩
  case round=>
   obtain⟨rfl,rfl⟩:=hrel;go_wp2
   go_end0
   exact⟨rfl,HRES.out⟩
 ·have hd:((f.1.length:Int) == 0) = false:=by rw [beq_eq_false_iff_ne]; omega
  have hd1:decide ((f.1.length:Int) = 0) = false:=decide_eq_false (by omega)
  have hg:grownL S.L f fs.length = S13.L:=by unfold grownL; rw [if_neg hz,<- HDD.out]; exact HL13.out.symm
  have HG:=hid hg;clear hg HL13
  go_wp2_with fail
  go_loopw [58] (λs58 w9=>∃ (k:Nat) (Sk:BokS),k<=f.1.length/\s58 = .int .i64 (k:Int)/\Hid (Bom w9 base bb FS (n + 1 + k) nmf Sk)/\Hid (Sk.L = pushAll S13.L (f.1.take k) fs.length)/\Hid (Sk.X = S.X)/\Hid (BkFr base w w9)) (λs58 _=>f.1.length - (RowKit.intOf s58).toNat)
  case atStart=>exact⟨0,S13,by omega,rfl,hid (by simpa using HM13.out),hid (by simp [pushAll_nil]),HSX,HW7⟩
  case round=>
   obtain⟨k,Sk,hk,rfl,hMk,hLk,hXk,hFk⟩:=hrel
   by_cases hlt:k < f.1.length
   ·obtain⟨rfl,hgx⟩:=HAC.out wr hFk.out k hlt
    have hx32:=H32.out f.1[k] (List.getElem_mem hlt);have hkn:(k:Int) < (f.1.length:Int):=by omega
    have hk0:¬ (k:Int) < 0:=by omega
    have htk:=List.take_succ_eq_append_getElem hlt;generalize f.1[k] = x at hx32 hgx htk;obtain⟨hl,hhl⟩:∃ hl,hl = bcells x:=⟨_,rfl⟩;have hl32:hl.length = 32:=by rw [hhl,bcells_length,hx32]
    have hst:=store_new (P:=Try.prog) wr 26 zeros32 hl.toArray (by rw [zeros32_size,List.size_toArray,hl32]) (by rw [hhl]; exact bcells_all x)
    have hxl:(Try.prog.info? 26).map (·.size) = some hl.length:=by rw [hl32]; kernel_rfl
    rw [<- hhl] at hgx;have baser:base<=wr.heap.size:=Nat.le_trans HBASE.out hFk.out.kept.size;have KX:Kept wr.heap.size wr.heap.size wr (wr.alloc (.cells hl.toArray 26)):=(Kept.refl _ _ _).alloc (Nat.le_refl _) _
    have hQ:=heap_new wr (.cells hl.toArray 26)
    have hMX:=hMk.out.kept KX;have hFX:=hFk.out.trans (BkFr.ofKept baser KX);have HST:=hid hst;have HIA:=hid hxl;have HHL:=hid hhl;have HX32:=hid hx32;have HTK:=hid htk;have HR9:=hid hgx;have HQ:=hid hQ;have HMX:=hid hMX;have HFX:=hid hFX;clear hst hxl hhl hx32 htk hgx hQ hMX hFX KX baser hMk hFk
    go_wp2_with (with_reducible refine wpList_load_mid rfl 26 _ rfl ag (ao + k * 32) rfl hl _ HR9.out Try.underlying26 rfl HIA.out ?_)
    rw [zeros32_eq,HST.out];generalize wr.alloc (.cells hl.toArray 26) = wx at HQ HMX HFX |-
    clear HST HR9;generalize wr.heap.size = wq at HQ |-
    go_upto_region 9 with fail
    have basex:base<=wx.heap.size:=Nat.le_trans HBASE.out HFX.out.kept.size;obtain⟨we,hwe⟩:∃ we,we = wx.drew:=⟨_,rfl⟩;have KD9:Kept wx.heap.size wx.heap.size wx we:=by rw [hwe]; exact(Kept.refl _ _ _).drew
    have KA:=KD9.alloc KD9.size (.cells #[.int .i64 ((fs.length:Nat):Int)] 3)
    have hXA:(we.alloc (.cells #[.int .i64 ((fs.length:Nat):Int)] 3)).heap[we.heap.size]? = some (.cells #[.int .i64 ((fs.length:Nat):Int)] 3 (0,0)):=heap_new _ _
    have MA:=HMX.out.kept KA;have hltq:wq < wx.heap.size:=lt_of_block HQ.out;have hbbx:bb < wx.heap.size:=lt_of_block HMX.out.cells
    have hS3:∀ (w':World),w'.heap[bb]? = wx.heap[bb]?->w'.heap[wq]? = wx.heap[wq]?->(w'.cell? ⟨bb,2,none⟩ = some (.map (some Sk.nm))/\w'.rangeAt wq 0 hl):=λw' h3 h4=>by
     refine⟨cells_get (j:=2) (h3.trans HMX.out.cells) rfl,?_⟩;have:=World.rangeAt_of_block (h4.trans HQ.out) 0 32
     rwa [show(hl.toArray.extract 0 (0 + 32)).toList = hl by
      rw [Array.toList_extract,List.extract_eq_take_drop,List.drop_zero]
      exact List.take_of_length_le (by show hl.length<=_; omega)] at this
    have SA:=hS3 _ (KA.block bb hbbx (Nat.ne_of_lt hbbx)) (KA.block wq hltq (Nat.ne_of_lt hltq));have SD:=hS3 _ (KD9.block bb hbbx (Nat.ne_of_lt hbbx)) (KD9.block wq hltq (Nat.ne_of_lt hltq));have hRA:=(KA.block wq hltq (Nat.ne_of_lt hltq)).trans HQ.out;have FA:BkFr base wx (we.alloc (.cells #[.int .i64 ((fs.length:Nat):Int)] 3)):=BkFr.ofKept basex KA
    obtain⟨st,w11,r11,f11,v15,w12,r12,f12,w15,r13,f13,M15⟩:=MA.entry_ne (Nat.le_trans basex KA.size) (by omega) x HX32.out fs.length we.heap.size 1 hXA
    have cbb:bb≠Sk.nm:=HMX.out.need.ne HMX.out.cells;have car:wq≠Sk.nm:=HMX.out.need.ne HQ.out;have hbbA:=(KA.block bb hbbx (Nat.ne_of_lt hbbx)).trans HMX.out.cells;have S11:=hS3 w11 ((f11.oth bb _ hbbA (λ_ _ e=>by cases e) cbb).trans HMX.out.cells.symm) ((f11.oth _ _ hRA (λ_ _ e=>by cases e) car).trans HQ.out.symm)
    have S12:=hS3 w12 ((f12.oth bb _ hbbA (λ_ _ e=>by cases e) cbb).trans HMX.out.cells.symm) ((f12.oth _ _ hRA (λ_ _ e=>by cases e) car).trans HQ.out.symm)
    have F15:=HFX.out.trans (FA.trans (f13.bk MA.need.map));rw [<- HHL.out] at r11;obtain⟨S15,hS15⟩:∃ S15:BokS,S15 = { Sk with fn:=upd Sk.fn (.string x) v15,L:=push Sk.L (.ne x) fs.length }:=⟨_,rfl⟩
    rw [<- hS15] at M15;have e15:S15.L = pushAll S13.L (f.1.take (k + 1)) fs.length:=by rw [hS15,HTK.out,pushAll_more,<- hLk.out]
    have x15:S15.X = S.X:=by rw [hS15]; exact hXk.out
    have HX15:=hid x15;clear hS15 x15 hXk;generalize Sk.val (.ne x) = vA at r11 r12;generalize goInt st = gst at r11 r13;have R11:=hid r11;have R12:=hid r12;have R13:=hid r13;have HM15:Hid (Bom w15 base bb FS (n + 1 + (k + 1)) nmf S15):=hid M15;have HL15:=hid e15;have HF15:=hid F15;have HSA:=hid SA;have HS11:=hid S11;have HS12:=hid S12;generalize Sk.nm = snm at *;clear r11 r12 r13 M15 F15 e15 SA S11 S12 f11 f12 f13 KD9 KA hXA MA hltq hbbx basex hS3 hRA FA cbb car hbbA HQ HMX HFX HTK HX32 HHL hLk;refine wp_region_noPanic ?_;refine wp_region_heldTo 11 (S:=λw'=>w'.cell? ⟨bb,2,none⟩ = some (.map (some snm))/\w'.rangeAt wq 0 hl) (by kernel_rfl) (by rw [<- hwe]; exact SD) (λhH=>?_)
    rw [<- hwe] at hH |-;clear SD hwe;refine tkT (i:=0) 62 (.pointer (some ⟨bb,0,none⟩)) rfl (.inl ⟨by rfl,λw9 h9=>by have q0:=h9.1; go_simp⟩) hH ?_
    simp only [sA,sB,sC];refine tkT (i:=1) 63 (.pointer (some ⟨bb,0,none⟩)) rfl (.inl ⟨by rfl,λw9 h9=>by have q0:=h9.1; go_simp⟩) hH ?_
    simp only [sA,sB,sC];refine tkT (i:=2) 64 (.pointer (some ⟨bb,2,none⟩)) rfl (.inl ⟨by rfl,λw9 h9=>by have q0:=h9.1; go_simp⟩) hH ?_
    simp only [sA,sB,sC];refine tkT (i:=3) 65 (.map (some snm)) rfl (.inl ⟨by rfl,λw9 h9=>by have q0:=h9.1; go_simp⟩) hH ?_
    simp only [sA,sB,sC];refine tkT (i:=4) 66 (.agg hl.toArray) rfl (yieldsIf_load_mid (by rfl) 26 _ rfl wq 0 rfl hl _ (λ_ h=>h.2) Try.underlying26 rfl HIA.out) hH ?_
    simp only [sA,sB,sC];refine tkT (i:=5) 68 (.int .i64 (fs.length:Int)) rfl (.inl ⟨by rfl,λw9 h9=>by have q0:=h9.1; go_simp⟩) hH ?_
    simp only [sA,sB,sC];refine heldTo_one (i:=6) (by kernel_rfl) rfl (λK hK=>?_)
    rw [if_pos (by rfl)]
    go_simp;refine hK.out _ _ HSA.out (λhH=>?_)
    clear hK K;refine heldTo_one (i:=7) (by kernel_rfl) rfl (λK hK=>?_)
    rw [if_pos (by rfl)]
    refine wp_entry_run _ _ 81 rfl (.map (some snm)) (.agg hl.toArray) rfl rfl R11.out ?_
    simp only [Act.put,List.setIfInBounds_toArray];refine hK.out _ _ HS11.out (λhH=>?_)
    clear hK K;refine tkT (i:=8) 67 (vA) rfl (.inl ⟨by rfl,λw9 h9=>by have q0:=h9.1; go_simp⟩) hH ?_
    simp only [sA,sB,sC];refine tkT (i:=10) 72 (gst) rfl (.inl ⟨by rfl,λw9 h9=>by have q0:=h9.1; go_simp⟩) hH ?_
    simp only [sA,sB,sC];refine heldTo_one (i:=9) (by kernel_rfl) rfl (λK hK=>?_)
    rw [if_pos (by rfl)]
    refine wp_append_run' _ _ 58 58 58 rfl rfl vA (.slice (some ⟨we.heap.size,0,none⟩) 1 1) rfl rfl R12.out ?_
    simp only [Act.put,List.setIfInBounds_toArray];refine hK.out _ _ HS12.out (λhH=>?_)
    clear hK K;refine heldTo_last (by kernel_rfl) rfl (λK hK=>?_)
    rw [if_pos (by rfl)]
    refine wp_store_run _ _ _ 81 rfl (.map (some snm)) gst v15 rfl rfl rfl R13.out ?_
    simp only [Act.put];refine hK.out _ _ (heldTo_done (by kernel_rfl) ?_ _)
    clear hK K hH R11 R12 R13 HSA HS11 HS12;refine NoPanic.normal ?_;simp only [List.getElem_toArray,List.getElem_cons_succ,List.getElem_cons_zero,List.set_cons_zero,List.set_cons_succ];go_wp2;exact⟨⟨k + 1,S15,by omega,by rw [Int.natCast_add]; rfl,HM15,HL15,HX15,HF15⟩,by simp only [RowKit.intOf]; omega⟩
   ·obtain rfl:k = f.1.length:=by omega
    have hd3:decide ((f.1.length:Int) < (f.1.length:Int)) = false:=decide_eq_false (by omega)
    have hl2:=hLk.out;rw [List.take_of_length_le (Nat.le_refl _),<- HG.out] at hl2;have hr:=HFIN.out _ _ _ hMk.out (by omega) hl2 hXk.out hFk.out
    have HRR:=hid hr;clear hr hl2;go_wp2
    go_end0
    exact⟨rfl,HRR.out⟩
theorem alike_eq {L M:List (List UInt8)}:alikeB L M = true↔L = M:=by
 unfold alikeB;exact beq_iff_eq
theorem noted_of {fs:List (List (List UInt8) × List (List UInt8))}{f:List (List UInt8) × List (List UInt8)}{J:List Nat}(hJ:∀ i (hi:i < fs.length),fs[i] = f->i∈J)(_hs:∀ i∈J,i < fs.length)(hno:∀ j (hj:j < J.length),∀ g,fs[J[j]]? = some g->(alikeB g.1 f.1 && alikeB g.2 f.2) = false):Bk.noted fs f = false:=by
 refine Bk.noted_no λi hi=>?_
 cases h:(alikeB fs[i].1 f.1 && alikeB fs[i].2 f.2) with
 | false=>rfl
 | true=>
  rw [Bool.and_eq_true,alike_eq,alike_eq] at h;have he:fs[i] = f:=Prod.ext h.1 h.2;obtain⟨j,hj,hje⟩:=List.getElem_of_mem (hJ i hi he);have:=hno j hj fs[i] (by rw [hje]; exact List.getElem?_eq_getElem hi)
  rw [h.1,h.2] at this;simp [alikeB] at this
theorem noted_at {fs:List (List (List UInt8) × List (List UInt8))}{f g:List (List UInt8) × List (List UInt8)}{i:Nat}(hg:fs[i]? = some g)(h1:alikeB g.1 f.1 = true)(h2:alikeB g.2 f.2 = true):Bk.noted fs f = true:=List.any_eq_true.2 ⟨g,List.mem_of_getElem? hg,by rw [h1,h2]; rfl⟩
theorem has_fact (base bb n:Nat)(fs:List (List (List UInt8) × List (List UInt8)))(nmf:Lit->Option Value)(S:BokS)(f:List (List UInt8) × List (List UInt8))(a b:Value)(w:World)(hB:Bok w base bb fs n nmf S)(ha:Hs w a f.1)(hb:Hs w b f.2)(hn:n < 1000000)(_hfs:fs.length < 1000000)(hsz:∀ g∈fs,g.1.length < 1000000/\g.2.length < 1000000)(h1:f.1.length < 1000000)(h2:f.2.length < 1000000):
  Calls Try.prog 91 #[.pointer (some ⟨bb,0,none⟩),.agg #[a,b],.agg (bcells (dig f)).toArray] w λe w'=>e = .returned (.bool (Bk.noted fs f))/\Kept w.heap.size w.heap.size w w':=by
 have ha0:=ha;have hb0:=hb;obtain⟨zp1,aad,ag,ao,ac,rfl,zp2⟩:=ha0;clear zp1 zp2;obtain⟨zp1,bad,bg,bo,bc,rfl,zp2⟩:=hb0;clear zp1 zp2;have hd32:(dig f).length = 32:=by rw [dig]; exact sum_length _
 obtain⟨fad,fg,fo,fc,hfv,hlk⟩:=hB.looks;obtain⟨jad,jg,jo,jc,hjv,hjat⟩:=(hB.row (.al (dig f))).looks;have c1:=cells_get (j:=1) hB.cells rfl;have hJs:=hB.same (dig f);have hJf:∀ i (hi:i < fs.length),fs[i] = f->i∈S.L (.al (dig f)):=λi hi e=>by have:=hB.found i hi; rwa [e] at this
 have hJb:=hB.few (.al (dig f));have halk:=hB.alike;have hlook0:=λ(w':World) (h:Mp w' 26 S.am n S.fa)=>h.look hash_keyed Try.underlying81 (slice_zero w') (keyOf_hash (dig f) hd32)
 have hval:(S.fa (.string (dig f))).getD (.slice none 0 0) = .slice jad (S.L (.al (dig f))).length jc:=hjv;rw [hval] at hlook0;obtain⟨bl,hbl⟩:∃ bl,bl = bcells (dig f):=⟨_,rfl⟩;rw [<- hbl] at hlook0 |-;have hbl32:bl.length = 32:=by rw [hbl,bcells_length,hd32]
 obtain⟨J,hJe⟩:∃ J,J = S.L (.al (dig f)):=⟨_,rfl⟩;rw [<- hJe] at hjat hJs hJf hJb hlook0;have hJ1000:J.length < 1000000:=by omega
 have HA:=hid ha;have HB:=hid hb;have HLK:=hid hlk;have HJAT:=hid hjat;have HJS:=hid hJs;have HJF:=hid hJf;have HALK:=hid halk;have HLOOK:=hid hlook0;have HC1:=hid c1;have HSZ:=hid hsz;clear ha hb hlk hjat hJs hJf hJb halk hlook0 c1 hsz hB hfv hjv hval hJe hbl hd32
 go_enter Try.func91,Try.ntmps91
 go_upto_region 1 with fail
 have hX:((w.alloc (.cells #[.slice aad f.1.length ac,.slice bad f.2.length bc] 122)).alloc (.cells bl.toArray 26)).heap[w.heap.size]? = some (.cells #[.slice aad f.1.length ac,.slice bad f.2.length bc] 122 (0,0)):=heap_alloc2_old w _ _
 have hR:((w.alloc (.cells #[.slice aad f.1.length ac,.slice bad f.2.length bc] 122)).alloc (.cells bl.toArray 26)).heap[w.heap.size + 1]? = some (.cells bl.toArray 26 (0,0)):=heap_alloc2_last w _ _
 have k1:Kept w.heap.size w.heap.size w ((w.alloc (.cells #[.slice aad f.1.length ac,.slice bad f.2.length bc] 122)).alloc (.cells bl.toArray 26)):=((Kept.refl _ _ _).alloc (Nat.le_refl _) _).alloc (by simp) _
 have s1:((w.alloc (.cells #[.slice aad f.1.length ac,.slice bad f.2.length bc] 122)).alloc (.cells bl.toArray 26)).heap.size = w.heap.size + 2:=by simp
 generalize (w.alloc (.cells #[.slice aad f.1.length ac,.slice bad f.2.length bc] 122)).alloc (.cells bl.toArray 26) = w1 at hX hR k1 s1 |-
 obtain⟨wa,hwa⟩:∃ wa,wa = w.heap.size:=⟨_,rfl⟩;have kw1:=k1;rw [<- hwa] at hX hR k1 s1 |-;have halk1:=HALK.out.same (kw1.block _ HALK.out.lt (Nat.ne_of_lt HALK.out.lt));have hlook:∀ d os,(Instr.lookup 81 (.map (some S.am)) (.agg bl.toArray) false).run Try.prog (Go.Sort.grow (redrawn w1 d) os) = .ok (.slice jad J.length jc) (Go.Sort.grow (redrawn w1 d) os):=λd os=>HLOOK.out _ (halk1.same ((below_regrown w1 d os).block _ halk1.lt))
 have hbb:=World.block_lt_of_cell? w _ HC1.out;have r1:∀ d os,(Go.Sort.grow (redrawn w1 d) os).cell? ⟨bb,1,none⟩ = some (.map (some S.am)):=λd os=>cell_regrown ((kw1.cell (p:=⟨bb,1,none⟩) hbb (Nat.ne_of_lt hbb)).trans HC1.out) d os
 have hrow:=λw'=>range_regrown (w:=w1) hR w'
 have hia:(Try.prog.info? 26).map (·.size) = some bl.toArray.size:=by rw [List.size_toArray,hbl32]; kernel_rfl
 have HWA:=hid hwa;have HX:=hid hX;have HK1:=hid k1;have HS1:=hid s1;have HROW:=hid hrow;have HIA:=hid hia;clear hX hR k1 s1 kw1 halk1 hbb hrow hia hwa;refine wp_region_quiet_below (by kernel_rfl) (by kernel_rfl) ?_
 iterate 8
  first
   | (refine wpQuiet_load_row 26 _ rfl (wa + 1) rfl bl.toArray _ HROW.out Try.underlying26 rfl HIA.out rfl ?_; go_simp)
   | (quiet_step (fail))
 refine wpQuiet_nil ?_;intro p;have HK2:=hid (regrown_kept (w:=w1) ⟨p,rfl⟩);generalize Go.Sort.grow (redrawn w1 p.d) p.os = w2 at HK2 |-;clear hlook r1
 go_wp2_with fail
 go_loopw [16] (λs16 w9=>∃ k:Nat,k<=J.length/\s16 = .int .i64 (k:Int)/\Hid (∀ j (hj:j < J.length),j < k->∀ g,fs[J[j]]? = some g->(alikeB g.1 f.1 && alikeB g.2 f.2) = false)/\Hid (Kept w1.heap.size w1.heap.size w1 w9)) (λs16 _=>J.length - (RowKit.intOf s16).toNat)
 case atStart=>exact⟨0,by omega,rfl,hid (λ_ _ h=>absurd h (Nat.not_lt_zero _)),HK2⟩
 case round=>
  obtain⟨k,hk,rfl,hno,hK⟩:=hrel
  have hkw:Kept w.heap.size w.heap.size w wr:=by
   have e1:=HWA.out;have e2:=HS1.out;rw [<- e1];exact HK1.out.trans (hK.out.mono (by omega) (λk hk _=>by omega))
  have HKW:=hid hkw;clear hkw
  by_cases hlt:k < J.length
  ·obtain⟨rfl,hjg,hjc⟩:=HJAT.out k hlt
   have hqf:=HJS.out J[k] (List.getElem_mem hlt);have hff:fs[J[k]]? = some fs[J[k]]:=List.getElem?_eq_getElem hqf;have hkn:(k:Int) < (J.length:Int):=by omega
   have hk0:¬ (k:Int) < 0:=by omega
   have hjcr:=(HKW.out.cell (p:=⟨jg,jo + k,none⟩) hjg (Nat.ne_of_lt hjg)).trans hjc;have hl:=HLK.out.kept HKW.out;obtain⟨hfad,va,vb,hva,hvb,hsa,hsb,hlow⟩:=hl.lies J[k] hqf;have hc0:=hl.c0;have hz:=HSZ.out _ (List.getElem_mem hqf);have hXr:=(hK.out.block wa (by have:=HS1.out; omega) (by have:=HS1.out; omega)).trans HX.out
   have ca1:∀ w',Kept wr.heap.size wr.heap.size wr w'->_:=λw' kk=>equal_calls fs[J[k]].1 f.1 _ _ w' (hsa.kept kk) ((HA.out.kept HKW.out).kept kk) (by omega) (by omega)
   have ca2:∀ w',Kept wr.heap.size wr.heap.size wr w'->_:=λw' kk=>equal_calls fs[J[k]].2 f.2 _ _ w' (hsb.kept kk) ((HB.out.kept HKW.out).kept kk) (by omega) (by omega)
   have hyes:=λh1 h2=>noted_at (f:=f) hff h1 h2
   have hmore:(alikeB fs[J[k]].1 f.1 && alikeB fs[J[k]].2 f.2) = false->∀ j (hj:j < J.length),j < k + 1->∀ g,fs[J[j]]? = some g->(alikeB g.1 f.1 && alikeB g.2 f.2) = false:=λh j hj hjk g hg=>by
    rcases Nat.lt_or_ge j k with h3 | h3
    ·exact hno.out j hj h3 g hg
    ·obtain rfl:j = k:=by omega
     rw [hff] at hg
     cases hg
     exact h
   clear hff;generalize fs[J[k]] = G at *;generalize J[k] = q at *;subst hfad;obtain⟨zp1,pad,pg,po,pc,rfl,zp2⟩:=id hsa;clear zp1 zp2;obtain⟨zp1,qad,qg,qo,qc,rfl,zp2⟩:=id hsb;clear zp1 zp2;have hqn:(q:Int) < (fs.length:Int):=by omega
   have hq0:¬ (q:Int) < 0:=by omega
   generalize hB1:alikeB G.1 f.1 = B1 at hyes hmore ca1;generalize hB2:alikeB G.2 f.2 = B2 at hyes hmore ca2;have r0:∀ d os,(Go.Sort.grow (redrawn wr d) os).cell? ⟨bb,0,none⟩ = some (.slice (some ⟨fg,fo,none⟩) fs.length fc):=λd os=>cell_regrown hc0 d os
   have r1:∀ d os,(Go.Sort.grow (redrawn wr d) os).cell? ⟨fg,fo + q * 2,none⟩ = some (.slice pad G.1.length pc):=λd os=>cell_regrown hva d os
   have r2:∀ d os,(Go.Sort.grow (redrawn wr d) os).cell? ⟨fg,fo + q * 2 + 1,none⟩ = some (.slice qad G.2.length qc):=λd os=>cell_regrown hvb d os
   have r3:∀ d os,(Go.Sort.grow (redrawn wr d) os).cell? ⟨wa,0,none⟩ = some (.slice aad f.1.length ac):=λd os=>cell_regrown (two_cell0 hXr) d os
   have r4:∀ d os,(Go.Sort.grow (redrawn wr d) os).cell? ⟨wa,1,none⟩ = some (.slice bad f.2.length bc):=λd os=>cell_regrown (two_cell1 hXr) d os
   have CA1:=hid ca1;have CA2:=hid ca2;have HYES:=hid hyes;have HMORE:=hid hmore;clear ca1 ca2 hyes hmore hB1 hB2 hsa hsb hva hvb hz hl hlow hc0 hXr hqf hjg hjc
   go_upto_region 4 with fail
   refine wp_region_quiet_below (by kernel_rfl) (by kernel_rfl) ?_
   iterate 10 (quiet_step (fail))
   quiet_step (first | (go_at_call 107; exact kept_regrown_at (w:=wr) (v:=.bool B1) CA1.out))
   cases B1 with
   | true=>
    refine @BigFrame.wpQuiet_want _ _ _ _ _ _ _ ?_ ?_;kernel_rfl;intro K hK;go_simp;refine hK _ ?_;clear hK K;refine @BigFrame.wpQuiet_want _ _ _ _ _ _ _ ?_ ?_;kernel_rfl;intro K hK;go_simp;refine hK _ ?_;clear hK K;refine @BigFrame.wpQuiet_want _ _ _ _ _ _ _ ?_ ?_;kernel_rfl;intro K hK;go_simp;refine hK _ ?_;clear hK K;refine @BigFrame.wpQuiet_want _ _ _ _ _ _ _ ?_ ?_;kernel_rfl;intro K hK;go_simp;refine hK _ ?_;clear hK K;refine @BigFrame.wpQuiet_want _ _ _ _ _ _ _ ?_ ?_;kernel_rfl;intro K hK;go_simp;refine hK _ ?_;clear hK K;refine @BigFrame.wpQuiet_want _ _ _ _ _ _ _ ?_ ?_;kernel_rfl;intro K hK;go_simp;refine hK _ ?_;clear hK K;refine @BigFrame.wpQuiet_want _ _ _ _ _ _ _ ?_ ?_;kernel_rfl;intro K hK;go_simp;refine hK _ ?_;clear hK K;refine @BigFrame.wpQuiet_want _ _ _ _ _ _ _ ?_ ?_;kernel_rfl;intro K hK;go_simp;refine hK _ ?_;clear hK K;refine @BigFrame.wpQuiet_want _ _ _ _ _ _ _ ?_ ?_;kernel_rfl;intro K hK;go_simp;refine hK _ ?_;clear hK K;refine @BigFrame.wpQuiet_want _ _ _ _ _ _ _ ?_ ?_;kernel_rfl;intro K hK;go_simp;refine hK _ ?_;clear hK K;refine @BigFrame.wpQuiet_want _ _ _ _ _ _ _ ?_ ?_;kernel_rfl;intro K hK;go_simp;refine hK _ ?_;clear hK K;refine @BigFrame.wpQuiet_want _ _ _ _ _ _ _ ?_ ?_;kernel_rfl;intro K hK;go_simp;apply Exists.intro;refine⟨λ_=>?_,hK _ ?_⟩
    go_at_call 107; exact kept_regrown_at (w:=wr) (v:=.bool B2) CA2.out
    clear hK K;refine @BigFrame.wpQuiet_want _ _ _ _ _ _ _ ?_ ?_;kernel_rfl;intro K hK;go_simp;refine hK _ ?_;clear hK K;refine wpQuiet_nil ?_;rintro _ ⟨p,rfl⟩;have k2:=regrown_kept (w:=wr) ⟨p,rfl⟩;generalize Go.Sort.grow (redrawn wr p.d) p.os = w3 at k2 |-;clear r0 r1 r2 r3 r4
    cases B2 with
    | true=>
     have HY:=hid (HYES.out rfl rfl);have Hk3:=hid (HKW.out.trans (k2.mono HKW.out.size (λk hk _=>by have:=HKW.out.size; omega)))
     clear k2;go_wp2;go_ret;exact⟨by show Ending.returned (.bool true) = _; rw [HY.out],Hk3.out⟩
    | false=>
     have Hk2:=hid (hK.out.trans (k2.mono hK.out.size (λk hk _=>by have:=hK.out.size; omega)))
     have Hno2:=hid (HMORE.out rfl);clear k2;go_wp2;exact⟨⟨k + 1,by omega,by rw [Int.natCast_add]; rfl,Hno2,Hk2⟩,by simp only [RowKit.intOf]; omega⟩
   | false=>
    refine @BigFrame.wpQuiet_want _ _ _ _ _ _ _ ?_ ?_;kernel_rfl;intro K hK;go_simp;refine hK _ ?_;clear hK K;refine @BigFrame.wpQuiet_skip _ _ _ _ _ _ _ ?_ ?_;kernel_rfl;simp only [Act.put,List.setIfInBounds_toArray,List.set_cons_succ,List.set_cons_zero];refine @BigFrame.wpQuiet_skip _ _ _ _ _ _ _ ?_ ?_;kernel_rfl;simp only [Act.put,List.setIfInBounds_toArray,List.set_cons_succ,List.set_cons_zero];refine @BigFrame.wpQuiet_skip _ _ _ _ _ _ _ ?_ ?_;kernel_rfl;simp only [Act.put,List.setIfInBounds_toArray,List.set_cons_succ,List.set_cons_zero];refine @BigFrame.wpQuiet_skip _ _ _ _ _ _ _ ?_ ?_;kernel_rfl;simp only [Act.put,List.setIfInBounds_toArray,List.set_cons_succ,List.set_cons_zero];refine @BigFrame.wpQuiet_skip _ _ _ _ _ _ _ ?_ ?_;kernel_rfl;simp only [Act.put,List.setIfInBounds_toArray,List.set_cons_succ,List.set_cons_zero];refine @BigFrame.wpQuiet_skip _ _ _ _ _ _ _ ?_ ?_;kernel_rfl;simp only [Act.put,List.setIfInBounds_toArray,List.set_cons_succ,List.set_cons_zero];refine @BigFrame.wpQuiet_skip _ _ _ _ _ _ _ ?_ ?_;kernel_rfl;simp only [Act.put,List.setIfInBounds_toArray,List.set_cons_succ,List.set_cons_zero];refine @BigFrame.wpQuiet_skip _ _ _ _ _ _ _ ?_ ?_;kernel_rfl;simp only [Act.put,List.setIfInBounds_toArray,List.set_cons_succ,List.set_cons_zero];refine @BigFrame.wpQuiet_skip _ _ _ _ _ _ _ ?_ ?_;kernel_rfl;simp only [Act.put,List.setIfInBounds_toArray,List.set_cons_succ,List.set_cons_zero];refine @BigFrame.wpQuiet_skip _ _ _ _ _ _ _ ?_ ?_;kernel_rfl;simp only [Act.put,List.setIfInBounds_toArray,List.set_cons_succ,List.set_cons_zero];refine @BigFrame.wpQuiet_skip _ _ _ _ _ _ _ ?_ ?_;kernel_rfl;simp only [Act.put,List.setIfInBounds_toArray,List.set_cons_succ,List.set_cons_zero];refine @BigFrame.wpQuiet_want _ _ _ _ _ _ _ ?_ ?_;kernel_rfl;intro K hK;go_simp;refine hK _ ?_;clear hK K;refine wpQuiet_nil ?_;rintro _ ⟨p,rfl⟩;have k2:=regrown_kept (w:=wr) ⟨p,rfl⟩;generalize Go.Sort.grow (redrawn wr p.d) p.os = w3 at k2 |-;clear r0 r1 r2 r3 r4;have Hk2:=hid (hK.out.trans (k2.mono hK.out.size (λk hk _=>by have:=hK.out.size; omega)))
    have Hno2:=hid (HMORE.out rfl);clear k2;go_wp2;exact⟨⟨k + 1,by omega,by rw [Int.natCast_add]; rfl,Hno2,Hk2⟩,by simp only [RowKit.intOf]; omega⟩
  ·obtain rfl:k = J.length:=by omega
   have hN:=noted_of HJF.out HJS.out (λj hj g hg=>hno.out j hj hj g hg)
   have HN:=hid hN;have hd:decide ((J.length:Int) < (J.length:Int)) = false:=decide_eq_false (by omega)
   clear hN;go_wp2;go_ret;exact⟨by show Ending.returned (.bool false) = _; rw [HN.out],HKW.out⟩
theorem textInfo9:(Try.prog.info? 9).map (λi=>(i.zero,i.size,i.bytes)) = some (some (.string ⟨#[]⟩),1,16):=by kernel_rfl
theorem text_info:∃ i,Try.prog.info? 9 = some i/\i.zero = some (.string ⟨#[]⟩)/\i.size = 1/\i.bytes = 16:=by
 have h:=textInfo9
 cases hq:Try.prog.info? 9 with
 | none=>rw [hq] at h; cases h
 | some i=>
  rw [hq] at h;simp only [Option.map_some,Option.some.injEq,Prod.mk.injEq] at h;exact⟨i,rfl,h.1,h.2.1,h.2.2⟩
def OwnT (w:World)(base:Nat)(v:Value)(xs:List ByteArray):Prop:=w.ownsRow base 9 1 v xs.length (xs.map .string)
theorem OwnT.low {w:World}{base:Nat}{v:Value}{xs:List ByteArray}(h:OwnT w base v xs):∀ k,v.ownBlock = some k->base<=k/\k < w.heap.size:=World.ownsRow.lt h
theorem texts_make (w:World)(base c:Nat)(hb:base<=w.heap.size)(hc:c < 2147483648):∃ w',(Instr.makeSlice 130 (.int .i64 0) (.int .i64 (c:Int))).run Try.prog w = .ok (.slice (some ⟨w.heap.size,0,none⟩) 0 c) w' /\
  OwnT w' base (.slice (some ⟨w.heap.size,0,none⟩) 0 c) []/\w.grownBy w' none:=by
 obtain⟨i,hi,hz,hs,hby⟩:=text_info;exact run_make_own (P:=Try.prog) w base 130 9 i (.string ⟨#[]⟩) 1 Try.underlying130 hi hz hs .i64 .i64 c (by rw [hby]; omega) (by unfold maxLen; omega) hb
theorem append_text (w:World)(base:Nat)(v:Value)(xs:List ByteArray)(hown:OwnT w base v xs)(hbase:base<=w.heap.size)(b c:Nat)(s:ByteArray)(hb:w.cell? ⟨b,0,none⟩ = some (.string s))(hl:xs.length < 1073741824):
  ∃ v' w',(Builtin.append_ #[130,130] 130 #[v,.slice (some ⟨b,0,none⟩) 1 c]).run Try.prog w = .ok v' w'/\OwnT w' base v' (xs ++ [s])/\w.grownBy w' v.ownBlock:=by
 obtain⟨i,hi,hz,hs,hby⟩:=text_info
 obtain⟨v',w',h1,h2,h3,_⟩:=run_append_own (P:=Try.prog) w base 130 130 9 i (.string ⟨#[]⟩) 1 16 Try.underlying130 hi hz hs hby rfl (by decide) v xs.length (xs.map .string) hown ⟨b,0,none⟩ 1 c [.string s]
  rfl (λj u hu=>by
   rw [Addr.add_lit]
   match j with
   | 0=>cases hu; exact hb
   | j + 1=>simp at hu) (λu hu=>by simp at hu; subst hu; rfl) (by unfold maxLen; omega) (by omega) hbase
 refine⟨v',w',h1,?_,h3⟩;unfold OwnT;rw [List.length_append,List.length_singleton,List.map_append];exact h2
theorem conv_digest {w:World}{b:Nat}{l:List UInt8}(hl:l.length = 32){t:TypeId}{fr:Nat × Nat}(h:w.heap[b]? = some (.cells (bcells l).toArray t fr)):(convert 45 9 (.slice (some ⟨b,0,none⟩) 32 32)).run Try.prog w = .ok (.string (str l)) w:=by
 have:=run_convert_bytes_back (P:=Try.prog) w 45 9 5 ⟨b,0,none⟩ 32 l Try.underlying45 Try.underlying5 Try.underlying9 (λj hj=>by rw [Addr.add_lit,Nat.zero_add]; simp [World.cell?,h,bcells,hj])
 rwa [hl] at this
theorem joined_strs (L:List (List UInt8)):joined (L.map str) (L.map str).length = L.flatten:=by
 rw [joined,List.take_length,List.flatMap_map]
 induction L with
 | nil=>rfl
 | cons x L ih=>rw [List.flatMap_cons,ih,List.flatten_cons]
theorem OwnT.parts {w:World}{base:Nat}{v:Value}{xs:List ByteArray}(h:OwnT w base v xs):∃ ad g c,v = .slice ad xs.length c/\∀ j (hj:j < xs.length),ad = some ⟨g,0,none⟩/\g < w.heap.size/\w.cell? ⟨g,0 + j,none⟩ = some (.string xs[j]):=by
 have hlt:=World.ownsRow.lt h;have h0:w.ownsRow base 9 1 v xs.length (xs.map .string):=h
 rcases h.2 with ⟨rfl,hn⟩ | ⟨g,cap,cur,rfl,hb,_⟩
 ·exact⟨none,0,0,by rw [hn],λj hj=>by omega⟩
 ·refine⟨some ⟨g,0,none⟩,g,cap,rfl,λj hj=>⟨rfl,(hlt g rfl).2,?_⟩⟩
  have:=h0.cells (g:=g) rfl j (.string xs[j]) (by rw [List.getElem?_map,List.getElem?_eq_getElem hj]; rfl)
  rwa [Addr.add_lit] at this
theorem OwnT.alloc {w:World}{base:Nat}{v:Value}{xs:List ByteArray}(h:OwnT w base v xs)(o:Obj):OwnT (w.alloc o) base v xs:=World.ownsRow.alloc h o
theorem digest_calls (f:List (List UInt8) × List (List UInt8))(a b:Value)(w:World)(ha:Hs w a f.1)(hb:Hs w b f.2)(h1:f.1.length < 1000000)(h2:f.2.length < 1000000):
  Calls Try.prog 90 #[.agg #[a,b]] w λe w'=>e = .returned (.agg (bcells (dig f)).toArray)/\Kept w.heap.size w.heap.size w w':=by
 obtain⟨a32,ad,g,o,c,rfl,acell⟩:=ha;obtain⟨b32,bd,q,r,d,rfl,bcell⟩:=hb;obtain⟨L,M⟩:=f;simp only at a32 acell b32 bcell h1 h2 |-;have hl1:(L.length:Int) < 1000000:=by omega
 have hl2:(M.length:Int) < 1000000:=by omega
 have A32:=hid a32;have B32:=hid b32;have HA:=hid acell;have HBC:=hid bcell;have HL1:=hid h1;have HL2:=hid h2;clear a32 acell b32 bcell h1 h2
 go_enter Try.func90,Try.ntmps90
 go_upto_region 1 with fail
 rw [zeros32_eq];have hX:((w.alloc (.cells #[.slice ad L.length c,.slice bd M.length d] 122)).alloc (.cells zeros32 26)).heap[w.heap.size]? = some (.cells #[.slice ad L.length c,.slice bd M.length d] 122 (0,0)):=heap_alloc2_old w _ _
 have hR:((w.alloc (.cells #[.slice ad L.length c,.slice bd M.length d] 122)).alloc (.cells zeros32 26)).heap[w.heap.size + 1]? = some (.cells zeros32 26 (0,0)):=heap_alloc2_last w _ _
 have k1:Kept w.heap.size w.heap.size w ((w.alloc (.cells #[.slice ad L.length c,.slice bd M.length d] 122)).alloc (.cells zeros32 26)):=((Kept.refl _ _ _).alloc (Nat.le_refl _) _).alloc (by simp) _
 have s1:((w.alloc (.cells #[.slice ad L.length c,.slice bd M.length d] 122)).alloc (.cells zeros32 26)).heap.size = w.heap.size + 2:=by simp
 generalize (w.alloc (.cells #[.slice ad L.length c,.slice bd M.length d] 122)).alloc (.cells zeros32 26) = w1 at hX hR k1 s1 |-
 obtain⟨wa,hwa⟩:∃ wa,wa = w.heap.size:=⟨_,rfl⟩;rw [<- hwa] at hX hR k1 s1 |-;have c0:=two_cell0 hX;have c1:=two_cell1 hX;obtain⟨w2,hr2,ho2,hg2⟩:=texts_make w1 w1.heap.size (L.length + M.length) (Nat.le_refl _) (by have:=HL1.out; have:=HL2.out; omega)
 have hr2':(Instr.makeSlice 130 (.int .i64 0) (.int .i64 ((L.length:Int) + (M.length:Int)))).run Try.prog w1 = .ok (.slice (some ⟨w1.heap.size,0,none⟩) 0 (L.length + M.length)) w2:=hr2
 have k2:Kept w1.heap.size w1.heap.size w1 w2:=(Kept.refl _ _ _).grown hg2 (Nat.le_refl _) (λk h=>by cases h)
 have c0':=(k2.cell (p:=⟨wa,0,none⟩) (by show wa < _; omega) (by show wa≠_; omega)).trans c0
 have HWA:=hid hwa;have HX:=hid hX;have HRES:=hid hR;have HK1:=hid k1;have HS1:=hid s1;have HO2:=hid ho2;have HK2:=hid k2;clear hwa hX hR k1 s1 ho2 hg2 k2 hr2
 go_wp2_with fail
 obtain⟨N,hN⟩:∃ N,N = w1.heap.size:=⟨_,rfl⟩;rw [<- hN] at HO2 HK2 |-;have HN:=hid hN;clear hN hr2'
 go_loopw [3,19] (λs3 s19 w9=>∃ k:Nat,k<=L.length/\s19 = .int .i64 (k:Int)/\Hid (OwnT w9 N s3 ((L.take k).map str))/\Hid (Kept N N w1 w9)) (λ_ s19 _=>L.length - (RowKit.intOf s19).toNat)
 case atStart=>exact⟨0,by omega,rfl,by simpa using HO2,HK2⟩
 case round=>
  obtain⟨k,hk,rfl,hO,hK⟩:=hrel
  by_cases hlt:k < L.length
  ·obtain⟨rfl,hg,hr⟩:=HA.out k hlt
   have hx32:=A32.out L[k] (List.getElem_mem hlt);have hkn:(k:Int) < (L.length:Int):=by omega
   have hk0:¬ (k:Int) < 0:=by omega
   have hwN:wa + 2<=N:=by have:=HS1.out; have:=HN.out; omega
   have hga:g < wa:=by rw [HWA.out]; exact hg
   have hgx:wr.rangeAt g (o + k * 32) (bcells L[k]):=rangeAt_kept hK.out (rangeAt_kept HK1.out hr hga (Nat.ne_of_lt hga)) (by omega) (by omega)
   have hxl:(Try.prog.info? 26).map (·.size) = some (bcells L[k]).length:=by rw [show(Try.prog.info? 26).map (·.size) = some 32 by kernel_rfl,bcells_length,hx32]
   have htk:=List.take_succ_eq_append_getElem hlt
   have hlen:(((L.take k).map str):List ByteArray).length < 1073741824:=by
    have:=HL1.out;have:=HL2.out;simp only [List.length_map,List.length_take]
    omega
   generalize L[k] = x at hx32 hgx hxl htk;have hst:=store_new (P:=Try.prog) wr 26 zeros32 (bcells x).toArray (by rw [zeros32_size,List.size_toArray,bcells_length,hx32]) (bcells_all x)
   have hA1:=heap_new wr (.cells (bcells x).toArray 26)
   have hcv:=conv_digest hx32 hA1;have s3:(wr.alloc (.cells (bcells x).toArray 26)).heap.size = wr.heap.size + 1:=by simp
   have hbN:N<=wr.heap.size:=by have:=hK.out.size; have:=HN.out; omega
   have hK3:=(hK.out.alloc hbN (.cells (bcells x).toArray 26)).alloc (by rw [s3]; omega) (.cells #[.string (str x)] 9)
   have hO3:=(hO.out.alloc (.cells (bcells x).toArray 26)).alloc (.cells #[.string (str x)] 9)
   have hcell:=cells_get (j:=0) (heap_new (wr.alloc (.cells (bcells x).toArray 26)) (.cells #[.string (str x)] 9)) rfl
   rw [s3] at hcell;have hbN2:N<=((wr.alloc (.cells (bcells x).toArray 26)).alloc (.cells #[.string (str x)] 9)).heap.size:=by simp; omega
   obtain⟨v5,w5,hr5,ho5,hg5⟩:=append_text _ N u3 _ hO3 hbN2 (wr.heap.size + 1) 1 (str x) hcell hlen;have hK5:=hK3.grown hg5 hbN2 (λk h=>(hO3.low k h).1)
   have hO5:OwnT w5 N v5 ((L.take (k + 1)).map str):=by
    rw [htk]
    simpa [List.map_append] using ho5
   obtain⟨bl,hbl⟩:∃ bl,bl = bcells x:=⟨_,rfl⟩;have hbl32:bl.length = 32:=by rw [hbl,bcells_length,hx32]
   rw [<- hbl] at hst hcv hgx hxl hr5;have HR:=hid hgx;have HXL:=hid hxl;have HST:=hid hst;have HCV:=hid hcv;have HR5:=hid hr5;have HO5:=hid hO5;have HK5:=hid hK5;have sl:=λw=>slice_hash w
   clear hgx hxl hst hcv hr5 hO5 hK5 htk hlen hA1 hbN hK3 hO3 hcell hbN2 ho5 hg5 hbl hr hga
   go_wp2_with (with_reducible refine wpList_load_mid rfl 26 _ rfl g (o + k * 32) rfl bl _ HR.out Try.underlying26 rfl HXL.out ?_)
   rw [zeros32_eq,HST.out];have hcv2:=HCV.out
   go_wp2_with (with_reducible refine wpList_append_known rfl _ _ 130 130 130 rfl rfl u3 (.slice (some ⟨wr.heap.size + 1,0,none⟩) 1 1) rfl rfl HR5.out ?_)
   exact⟨⟨k + 1,by omega,by rw [Int.natCast_add]; rfl,HO5,HK5⟩,by simp only [RowKit.intOf]; omega⟩
  ·obtain rfl:k = L.length:=by omega
   have hO1:=hO.out;rw [List.take_of_length_le (Nat.le_refl _)] at hO1;have c1':=(hK.out.cell (p:=⟨wa,1,none⟩) (by show wa < _; have:=HS1.out; have:=HN.out; omega) (by show wa≠_; have:=HS1.out; have:=HN.out; omega)).trans (two_cell1 HX.out)
   have hd:decide ((L.length:Int) < (L.length:Int)) = false:=decide_eq_false (by omega)
   have HO1:Hid (OwnT wr N u3 ((L ++ M.take 0).map str)):=hid (by simpa using hO1)
   have HKL:=hK;clear hO1 hO hK
   go_wp2_with fail
   go_loopw [3,32] (λs3 s32 w9=>∃ k:Nat,k<=M.length/\s32 = .int .i64 (k:Int)/\Hid (OwnT w9 N s3 ((L ++ M.take k).map str))/\Hid (Kept N N w1 w9)) (λ_ s32 _=>M.length - (RowKit.intOf s32).toNat)
   case atStart=>exact⟨0,by omega,rfl,HO1,HKL⟩
   case round=>
    obtain⟨k,hk,rfl,hO,hK⟩:=hrel
    by_cases hlt:k < M.length
    ·obtain⟨rfl,hg,hr⟩:=HBC.out k hlt
     have hx32:=B32.out M[k] (List.getElem_mem hlt);have hkn:(k:Int) < (M.length:Int):=by omega
     have hk0:¬ (k:Int) < 0:=by omega
     have hwN:wa + 2<=N:=by have:=HS1.out; have:=HN.out; omega
     have hga:q < wa:=by rw [HWA.out]; exact hg
     have hgx:wr.rangeAt q (r + k * 32) (bcells M[k]):=rangeAt_kept hK.out (rangeAt_kept HK1.out hr hga (Nat.ne_of_lt hga)) (by omega) (by omega)
     have hxl:(Try.prog.info? 26).map (·.size) = some (bcells M[k]).length:=by rw [show(Try.prog.info? 26).map (·.size) = some 32 by kernel_rfl,bcells_length,hx32]
     have htk:=List.take_succ_eq_append_getElem hlt
     have hlen:(((L ++ M.take k).map str):List ByteArray).length < 1073741824:=by
      have:=HL1.out;have:=HL2.out;simp only [List.length_map,List.length_append,List.length_take]
      omega
     generalize M[k] = x at hx32 hgx hxl htk;have hst:=store_new (P:=Try.prog) wr 26 zeros32 (bcells x).toArray (by rw [zeros32_size,List.size_toArray,bcells_length,hx32]) (bcells_all x)
     have hA1:=heap_new wr (.cells (bcells x).toArray 26)
     have hcv:=conv_digest hx32 hA1;have s3:(wr.alloc (.cells (bcells x).toArray 26)).heap.size = wr.heap.size + 1:=by simp
     have hbN:N<=wr.heap.size:=by have:=hK.out.size; have:=HN.out; omega
     have hK3:=(hK.out.alloc hbN (.cells (bcells x).toArray 26)).alloc (by rw [s3]; omega) (.cells #[.string (str x)] 9)
     have hO3:=(hO.out.alloc (.cells (bcells x).toArray 26)).alloc (.cells #[.string (str x)] 9)
     have hcell:=cells_get (j:=0) (heap_new (wr.alloc (.cells (bcells x).toArray 26)) (.cells #[.string (str x)] 9)) rfl
     rw [s3] at hcell;have hbN2:N<=((wr.alloc (.cells (bcells x).toArray 26)).alloc (.cells #[.string (str x)] 9)).heap.size:=by simp; omega
     obtain⟨v5,w5,hr5,ho5,hg5⟩:=append_text _ N u3 _ hO3 hbN2 (wr.heap.size + 1) 1 (str x) hcell hlen;have hK5:=hK3.grown hg5 hbN2 (λk h=>(hO3.low k h).1)
     have hO5:OwnT w5 N v5 ((L ++ M.take (k + 1)).map str):=by
      rw [htk]
      simpa [List.map_append] using ho5
     obtain⟨bl,hbl⟩:∃ bl,bl = bcells x:=⟨_,rfl⟩;have hbl32:bl.length = 32:=by rw [hbl,bcells_length,hx32]
     rw [<- hbl] at hst hcv hgx hxl hr5;have HR:=hid hgx;have HXL:=hid hxl;have HST:=hid hst;have HCV:=hid hcv;have HR5:=hid hr5;have HO5:=hid hO5;have HK5:=hid hK5;have sl:=λw=>slice_hash w
     clear hgx hxl hst hcv hr5 hO5 hK5 htk hlen hA1 hbN hK3 hO3 hcell hbN2 ho5 hg5 hbl hr hga
     go_wp2_with (with_reducible refine wpList_load_mid rfl 26 _ rfl q (r + k * 32) rfl bl _ HR.out Try.underlying26 rfl HXL.out ?_)
     rw [zeros32_eq,HST.out];have hcv2:=HCV.out
     go_wp2_with (with_reducible refine wpList_append_known rfl _ _ 130 130 130 rfl rfl u3 (.slice (some ⟨wr.heap.size + 1,0,none⟩) 1 1) rfl rfl HR5.out ?_)
     exact⟨⟨k + 1,by omega,by rw [Int.natCast_add]; rfl,HO5,HK5⟩,by simp only [RowKit.intOf]; omega⟩
    ·obtain rfl:k = M.length:=by omega
     have hO2:=hO.out;rw [List.take_of_length_le (Nat.le_refl _)] at hO2;obtain⟨pad,pg,pc,hu3,pcell⟩:=hO2.parts;have hd2:decide ((M.length:Int) < (M.length:Int)) = false:=decide_eq_false (by omega)
     have hf32:∀ x∈L ++ M,x.length = 32:=λx hx=>(List.mem_append.1 hx).elim (A32.out x) (B32.out x)
     have hsum:=sum_calls ((L ++ M).map str) pad pc pg 0 wr (hid (by rw [List.length_map,List.length_append]; have:=HL1.out; have:=HL2.out; omega)) (hid (by
      rw [joined_strs,flatten_length _ hf32,List.length_append];have:=HL1.out;have:=HL2.out
      omega)) pcell
     rw [joined_strs,List.flatten_append] at hsum;have hsl:(Sm.sum (L.flatten ++ M.flatten)).length = 32:=sum_length _;have HDIG:Hid (dig (L,M) = Sm.sum (L.flatten ++ M.flatten)):=hid (by rw [dig])
     have hres:=(hK.out.block (wa + 1) (by have:=HS1.out; have:=HN.out; omega) (by have:=HS1.out; have:=HN.out; omega)).trans HRES.out
     have hNr:N<=wr.heap.size:=by have:=hK.out.size; have:=HN.out; omega
     have hKw:Kept wa wa w wr:=HK1.out.trans (hK.out.mono (by have:=HS1.out; have:=HN.out; omega) (λk hk _=>by have:=HS1.out; have:=HN.out; omega))
     have hall:=bcells_all (Sm.sum (L.flatten ++ M.flatten));have hsz:(bcells (Sm.sum (L.flatten ++ M.flatten))).toArray.size = 32:=by rw [List.size_toArray,bcells_length,hsl]
     have hz32:=zeros32_size;generalize hcs:(bcells (Sm.sum (L.flatten ++ M.flatten))).toArray = cs at hsum hall hsz;generalize ((L ++ M).map str).length = nn at hu3 hsum;subst hu3;have HSUM:=hid hsum;have HRES2:=hid hres;have HKW:=hid hKw;have HCS:=hid hcs;have HNR:=hid hNr;generalize zeros32 = z at HRES2 hz32;clear hsum hres hKw hcs hNr pcell hsl hf32 hO2
     go_wp2_with fail
     refine HSUM.out.mono ?_;rintro e w7 ⟨rfl,k7⟩;have hA12:=(k7.block (wa + 1) (by have:=HNR.out; have:=HS1.out; have:=HN.out; omega) (by have:=HNR.out; have:=HS1.out; have:=HN.out; omega)).trans HRES2.out
     have hK7:Kept wa wa w w7:=HKW.out.trans (k7.mono (by have:=HNR.out; have:=HS1.out; have:=HN.out; omega) (λk hk _=>by have:=HNR.out; have:=HS1.out; have:=HN.out; omega))
     have HK7:=hid hK7;clear k7 hK7
     go_wp2_with (with_reducible refine wpList_store_row rfl 26 _ _ rfl (wa + 1) cs rfl rfl 26 _ hA12 (by rw [show(Try.prog.info? 26).map (·.size) = some 32 by kernel_rfl,hsz]) (by rw [hz32,hsz]) hall ?_)
     obtain⟨t1,t2⟩:Kept wa wa w (w7.setRow (wa + 1) cs)/\(w7.setRow (wa + 1) cs).heap[wa + 1]? = some (.cells cs 26 (0,0)):=
      ⟨HK7.out.trans ⟨rfl,rfl,rfl,by simp [World.setRow],λk hk _=>setRow_other w7 (wa + 1) k cs (by omega)⟩,setRow_heap w7 (wa + 1) z cs _ _ hA12⟩
     refine bodyPost_ret (results_cell_row rfl _ _ (wa + 1) 26 cs (0,0) _ rfl t2 Try.underlying26 rfl (by rw [show(Try.prog.info? 26).map (·.size) = some 32 by kernel_rfl,hsz])) rfl ?_
     refine⟨by rw [HDIG.out,HCS.out],?_⟩;rw [<- HWA.out];exact t1
theorem note_callsX (base bb n:Nat)(fs:List (List (List UInt8) × List (List UInt8)))(nmf:Lit->Option Value)(S:BokS)(f:List (List UInt8) × List (List UInt8))(a b:Value)(w:World)(hB:Bok w base bb fs n nmf S)(hbase:base<=w.heap.size)(ha:Hs w a f.1)(hb:Hs w b f.2)(hna:Whole a)(hnb:Whole b)(hkeep:∀ w',BkFr base w w'->Hs w' a f.1)(hn:n < 1000000)(hfs:fs.length < 1000000)(hsz:∀ g∈fs,g.1.length < 1000000/\g.2.length < 1000000)(h1:f.1.length < 1000000)(h2:f.2.length < 1000000)(hX:∀ k,S.X k->k < w.heap.size):
  Calls Try.prog 67 #[.pointer (some ⟨bb,0,none⟩),.agg #[a,b]] w λe w'=>e = .returned (.int .i64 (if f.2.length = 0 then 1 else 0))/\(∃ n',n'<=n + f.1.length + 2/\∃ S',S'.X = S.X/\Bok w' base bb (Bk.note fs f) n' nmf S')/\BkFr base w w':=by
 have ha0:=ha;have hb0:=hb;obtain⟨zp1,aad,ag,ao,ac,rfl,zp2⟩:=ha0;clear zp1 zp2;obtain⟨zp1,bad,bg,bo,bc,rfl,zp2⟩:=hb0;clear zp1 zp2;have hd32:(dig f).length = 32:=by rw [dig]; exact sum_length _
 obtain⟨fad,fg,fo,fc,hfv,hlk⟩:=hB.looks;clear hlk;have hc0:=cells_get (j:=0) hB.cells rfl;rw [hfv] at hc0;have hbbw:=lt_of_block hB.cells;have hXX:(w.alloc (.cells #[.slice aad f.1.length ac,.slice bad f.2.length bc] 122)).heap[w.heap.size]? = some (.cells #[.slice aad f.1.length ac,.slice bad f.2.length bc] 122 (0,0)):=heap_new _ _
 have k1:Kept w.heap.size w.heap.size w (w.alloc (.cells #[.slice aad f.1.length ac,.slice bad f.2.length bc] 122)):=(Kept.refl _ _ _).alloc (Nat.le_refl _) _
 have x0:=two_cell0 hXX;have x1:=two_cell1 hXX;have hd:=digest_calls f _ _ _ (ha.kept k1) (hb.kept k1) h1 h2;have hstay:∀ w',Kept w.heap.size w.heap.size w w'->(∃ n',n'<=n + f.1.length + 2/\∃ S',S'.X = S.X/\Bok w' base bb fs n' nmf S')/\BkFr base w w':=λw' k=>⟨⟨n,by omega,S,rfl,hB.kept k⟩,BkFr.ofKept hbase k⟩
 obtain⟨D,hD⟩:∃ D,D = (bcells (dig f)).toArray:=⟨_,rfl⟩;have hD32:D.size = 32:=by rw [hD,List.size_toArray,bcells_length,hd32]
 have hall:D.all (λx=>x.oneCell') = true:=by rw [hD]; exact bcells_all _
 rw [<- hD] at hd;have hhas:=λ(w':World) (k:Kept w.heap.size w.heap.size w w')=>has_fact base bb n fs nmf S f _ _ w' (hB.kept k) (ha.kept k) (hb.kept k) hn hfs hsz h1 h2
 have hadd:=λ(w':World) (k:Kept w.heap.size w.heap.size w w')=>add_calls base bb n fs nmf S f _ _ w' (hB.kept k) (Nat.le_trans hbase k.size) (ha.kept k) (hb.kept k) hna hnb (λw2 h=>hkeep w2 ((BkFr.ofKept hbase k).trans h)) hn hfs h1 h2 (λi hi=>Nat.lt_of_lt_of_le (hX i hi) k.size)
 rw [<- hD] at hhas hadd;have hc0':∀ w',Kept w.heap.size w.heap.size w w'->w'.cell? ⟨bb,0,none⟩ = some (.slice fad fs.length fc):=λw' k=>(k.cell (p:=⟨bb,0,none⟩) hbbw (Nat.ne_of_lt hbbw)).trans hc0
 have s1:(w.alloc (.cells #[.slice aad f.1.length ac,.slice bad f.2.length bc] 122)).heap.size = w.heap.size + 1:=by simp
 have HX:=hid hXX;have HK1:=hid k1;have HD:=hid hd;have HST:=hid hstay;have HHAS:=hid hhas;have HADD:=hid hadd;have HC0:=hid hc0';have HS1:=hid s1;have HBASE:=hid hbase;have HALL:=hid hall;clear hXX hX k1 hd hstay hhas hadd hc0' hc0 hbbw s1 hD hall hd32 ha hb hna hnb hkeep hsz hB hfv hbase
 go_enter Try.func67,Try.ntmps67
 by_cases hz:f.2.length = 0
 ·have hd0:((f.2.length:Int) == 0) = true:=by rw [beq_iff_eq]; omega
  have hd1:decide ((f.2.length:Int) = 0) = true:=decide_eq_true (by omega)
  have hn2:Bk.note fs f = fs:=by unfold Bk.note; rw [if_pos hz]
  have hr:=HST.out _ HK1.out;rw [<- hn2] at hr;have HRR:=hid hr;have HZ:=hid hz;clear hr hn2 hz
  go_wp2_with fail
  go_ret;have hr2:=HRR.out;rw [HZ.out] at hr2;exact⟨rfl,hr2⟩
 ·have hd0:((f.2.length:Int) == 0) = false:=by rw [beq_eq_false_iff_ne]; omega
  have hd1:decide ((f.2.length:Int) = 0) = false:=decide_eq_false (by omega)
  have hd2:decide ((1048576:Int)<=(fs.length:Int)) = false:=decide_eq_false (by omega)
  have HZ:=hid hz;clear hz
  go_wp2_with (go_at_call 90; refine HD.out.mono ?_; rintro e w2 ⟨rfl,k2⟩)
  have hst:=store_new (P:=Try.prog) w2 26 zeros32 D (by rw [zeros32_size,hD32]) HALL.out
  rw [zeros32_eq,hst];have k3:Kept w.heap.size w.heap.size w (w2.alloc (.cells D 26)):=(HK1.out.trans (k2.mono (by have:=HS1.out; omega) (λk hk _=>by have:=HS1.out; omega))).alloc (by have:=HS1.out; have:=k2.size; omega) _
  have r3:(w2.alloc (.cells D 26)).heap[w2.heap.size]? = some (.cells D 26 (0,0)):=heap_new _ _
  have h2x:w2.heap[w.heap.size]? = some (.cells #[.slice aad f.1.length ac,.slice bad f.2.length bc] 122 (0,0)):=(k2.block w.heap.size (by have:=HS1.out; omega) (by have:=HS1.out; omega)).trans HX.out
  have hwq:w.heap.size < w2.heap.size:=lt_of_block h2x;have h3x:(w2.alloc (.cells D 26)).heap[w.heap.size]? = some (.cells #[.slice aad f.1.length ac,.slice bad f.2.length bc] 122 (0,0)):=by rw [Below.heap_alloc _ _ _ hwq]; exact h2x
  have s3:(w2.alloc (.cells D 26)).heap.size = w2.heap.size + 1:=by simp
  clear x0 x1 hst;generalize w2.alloc (.cells D 26) = w3 at k3 r3 h3x s3 |-
  obtain⟨wq,hwq2⟩:∃ wq,wq = w2.heap.size:=⟨_,rfl⟩;rw [<- hwq2] at r3 s3 |-;obtain⟨wa,hwa⟩:∃ wa,wa = w.heap.size:=⟨_,rfl⟩;have h3y:=h3x;rw [<- hwa] at h3x |-;have x0:=two_cell0 h3x;have x1:=two_cell1 h3x;have hca:=HHAS.out w3 k3;have hia:(Try.prog.info? 26).map (·.size) = some D.size:=by rw [hD32]; kernel_rfl
  have hl3:wa < w3.heap.size:=lt_of_block h3x;have HK3:=hid k3;have HR3:=hid r3;have HX3:=hid h3x;have HCA:=hid hca;have HIA:=hid hia;have HWA:=hid hwa;have HS3:=hid s3;clear k3 r3 h3x hca hia h3y h2x hwq hwq2 s3 k2 hl3 hwa;clear w2
  cases hBn:Bk.noted fs f with
  | true=>
   rw [hBn] at HCA;have hn2:Bk.note fs f = fs:=by unfold Bk.note; rw [if_neg HZ.out,if_pos hBn]
   have HN2:=hid hn2;clear hn2 hBn
   go_wp2_with (first
    | (with_reducible refine wpList_load_row rfl 26 _ rfl wq rfl 26 D (0,0) _ HR3.out Try.underlying26 rfl HIA.out ?_)
    | (go_at_call 91; refine HCA.out.mono ?_; rintro e w4 ⟨rfl,k4⟩))
   have hr:=HST.out w4 (HK3.out.trans (k4.mono HK3.out.size (λk hk _=>by have:=HK3.out.size; omega)))
   go_ret;exact⟨by first | rfl | (show Ending.returned (.int .i64 0) = _; rw [if_neg HZ.out]),by rw [HN2.out]; exact hr⟩
  | false=>
   rw [hBn] at HCA;have hn2:Bk.note fs f = fs ++ [f]:=by unfold Bk.note; rw [if_neg HZ.out,if_neg (by rw [hBn]; simp)]
   have HN2:=hid hn2;clear hn2 hBn
   go_wp2_with (first
    | (with_reducible refine wpList_load_row rfl 26 _ rfl wq rfl 26 D (0,0) _ HR3.out Try.underlying26 rfl HIA.out ?_)
    | (go_at_call 91; refine HCA.out.mono ?_; rintro e w4 ⟨rfl,k4⟩; have hk4:=HK3.out.trans (k4.mono HK3.out.size (λk hk _=>by have:=HK3.out.size; omega)); have c4:=HC0.out w4 hk4; have X4:=(k4.block wa (lt_of_block HX3.out) (Nat.ne_of_lt (lt_of_block HX3.out))).trans HX3.out; have y0:=two_cell0 X4; have y1:=two_cell1 X4; have R4:=hid (rk HR3.out k4); have HK4:=hid hk4; clear hk4 X4 k4)
    | (with_reducible refine wpList_load_row rfl 26 _ rfl wq rfl 26 D (0,0) _ R4.out Try.underlying26 rfl HIA.out ?_)
    | (go_at_call 92; refine(HADD.out _ HK4.out).mono ?_; rintro e w5 ⟨rfl,⟨S5,hx5,hb5⟩,f5⟩))
   go_ret;exact⟨by first | rfl | (show Ending.returned (.int .i64 0) = _; rw [if_neg HZ.out]),⟨n + f.1.length + 2,Nat.le_refl _,S5,hx5,by rw [HN2.out]; exact hb5⟩,(BkFr.ofKept HBASE.out HK4.out).trans f5⟩
def bokNew (b:Nat):BokS:=⟨.slice none 0 0,.slice none 0 0,b,b + 1,b + 2,λ_=>none,λ_=>none,λ_=>[],λ_=>False⟩
theorem bokNew_val (b:Nat):∀ o,(bokNew b).val o = .slice none 0 0
 | .al _=>rfl
 | .ne _=>rfl
 | .fr=>rfl
theorem new_bok (w:World):Bok ((((w.alloc (.map #[] 0)).alloc (.map #[] 0)).alloc (.map #[] 0)).alloc (.cells #[.slice none 0 0,.map (some w.heap.size),.map (some (w.heap.size + 1)),.slice none 0 0,.map (some (w.heap.size + 2))] 85)) w.heap.size (w.heap.size + 3) [] 0 (λ_=>none) (bokNew w.heap.size):=by
 have s1:(w.alloc (.map #[] 0)).heap.size = w.heap.size + 1:=by simp
 have s2:((w.alloc (.map #[] 0)).alloc (.map #[] 0)).heap.size = w.heap.size + 2:=by simp
 have s3:(((w.alloc (.map #[] 0)).alloc (.map #[] 0)).alloc (.map #[] 0)).heap.size = w.heap.size + 3:=by simp
 have m1:=λk=>Mp.made w k
 have m2:=λk=>Mp.made (w.alloc (.map #[] 0)) k
 have m3:=λk=>Mp.made ((w.alloc (.map #[] 0)).alloc (.map #[] 0)) k
 rw [s1] at m2;rw [s2] at m3;have al:∀ {w':World} {k b n:Nat} {f:Lit->Option Value} {o:Obj},Mp w' k b n f->Mp (w'.alloc o) k b n f:=λh=>h.same (Below.heap_alloc _ _ _ h.lt)
 refine⟨?_,by omega,Nat.le_refl _,Nat.le_succ _,by show w.heap.size<=w.heap.size + 2; omega,by show w.heap.size≠w.heap.size + 1; omega,by show w.heap.size≠w.heap.size + 2; omega,by show w.heap.size + 1≠w.heap.size + 2; omega,OwnB.nil _ _ _,al (al (al (m1 _))),al (al (m2 _)),al (m3 _),λo=>?_,λo o' _ k hk=>?_,λi=>?_,λh i=>?_,λh i hi=>?_,λi hi=>absurd hi (Nat.not_lt_zero _),λo=>Nat.le_refl _⟩
 ·have:=heap_new (((w.alloc (.map #[] 0)).alloc (.map #[] 0)).alloc (.map #[] 0)) (.cells #[.slice none 0 0,.map (some w.heap.size),.map (some (w.heap.size + 1)),.slice none 0 0,.map (some (w.heap.size + 2))] 85)
  rw [s3] at this;exact this
 ·rw [bokNew_val]
  exact OwnI.nil _ _
 ·rw [bokNew_val] at hk
  cases hk
 ·exact⟨λh=>(nomatch h),λ⟨g,hg,_⟩=>by cases hg⟩
 ·rfl
 ·cases hi
theorem new_book (w:World):Calls Try.prog 7 #[] w λe w'=>∃ bb S,e = .returned (.pointer (some ⟨bb,0,none⟩))/\Bok w' w.heap.size bb [] 0 (λ_=>none) S/\Kept w.heap.size w.heap.size w w':=by
 have hb:=new_bok w;have k:Kept w.heap.size w.heap.size w ((((w.alloc (.map #[] 0)).alloc (.map #[] 0)).alloc (.map #[] 0)).alloc (.cells #[.slice none 0 0,.map (some w.heap.size),.map (some (w.heap.size + 1)),.slice none 0 0,.map (some (w.heap.size + 2))] 85)):=((((Kept.refl _ _ _).alloc (Nat.le_refl _) _).alloc (by simp) _).alloc (by simp; omega) _).alloc (by simp; omega) _
 have HB:=hid hb;have HK:=hid k;have hmm:=@run_makeMap Try.prog;clear hb k
 go_enter Try.func7,Try.ntmps7
 go_wp2_with fail
 go_ret;exact⟨w.heap.size + 3,bokNew w.heap.size,rfl,HB.out,HK.out⟩
theorem note_nil (f:List (List UInt8) × List (List UInt8))(a b:Value)(w:World)(ha:Hs w a f.1)(hb:Hs w b f.2):
  Calls Try.prog 67 #[.pointer none,.agg #[a,b]] w λe w'=>e = .returned (.int .i64 (if f.2.length = 0 then 1 else 0))/\Kept w.heap.size w.heap.size w w':=by
 obtain⟨zp1,aad,ag,ao,ac,rfl,zp2⟩:=ha;clear zp1 zp2;obtain⟨zp1,bad,bg,bo,bc,rfl,zp2⟩:=hb;clear zp1 zp2;generalize f.1.length = la;generalize f.2.length = lb;have hX:(w.alloc (.cells #[.slice aad la ac,.slice bad lb bc] 122)).heap[w.heap.size]? = some (.cells #[.slice aad la ac,.slice bad lb bc] 122 (0,0)):=heap_new _ _
 have k1:Kept w.heap.size w.heap.size w (w.alloc (.cells #[.slice aad la ac,.slice bad lb bc] 122)):=(Kept.refl _ _ _).alloc (Nat.le_refl _) _
 have x1:=two_cell1 hX;have HK1:=hid k1;clear hX k1
 go_enter Try.func67,Try.ntmps67
 cases lb with
 | zero=>
  go_wp2_with fail
  go_ret;exact⟨rfl,HK1.out⟩
 | succ m=>
  have hd0:(((m + 1:Nat):Int) == 0) = false:=by rw [beq_eq_false_iff_ne]; omega
  go_wp2_with fail
  go_ret;exact⟨rfl,HK1.out⟩
end Go.Proofs.Ytanfnafiofkihaa
