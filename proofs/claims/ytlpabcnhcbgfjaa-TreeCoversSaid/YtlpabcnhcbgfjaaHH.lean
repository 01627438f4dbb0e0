/-
 TreeGath; TreeGather; TreeRefRes; TreeGathers; TreeResolve: several texts in one.
-/
import Derived.Test.YtlpabcnhcbgfjaaHF
set_option maxRecDepth 100000
set_option maxHeartbeats 12800000
namespace Go.Proofs.Ytlpabcnhcbgfjaa
open Go.RowKit Go.Lib
open List renaming setIfInBounds_toArray → sA, set_cons_zero → sB, set_cons_succ → sC
open BigFrame renaming wpList_want → wQ
structure Gs (w0:World) (B tb lb gb nb:Nat) (V:Array Value) (tg:TypeId) (n:Nat) (M:List Int) (w:World):Prop where
 kp:Kept B lb w0 w
 base:B≤w.heap.size
 tree:w.heap[tb]? = some (.cells V 27 (0,0))
 gat:w.heap[gb]? = some (.cells #[.func (.func 20) #[] #[.pointer (some ⟨tb,0,none⟩),.pointer (some ⟨lb,0,none⟩),.pointer (some ⟨gb,0,none⟩),.pointer (some ⟨nb,0,none⟩)]] tg (0,0))
 num:w.heap[nb]? = some (.cells #[.int .i64 (n:Int)] 3 (0,0))
 lst:∃ v,w.heap[lb]? = some (.cells #[v] 29 (0,0))∧Ints w B v M
 low:tb < B∧lb < B∧gb < B∧nb < B∧tb≠lb∧gb≠lb∧nb≠lb
section
variable {w0 w w1:World} {B tb lb gb nb:Nat} {V:Array Value} {tg:TypeId} {n:Nat} {M:List Int}
theorem Gs.kept (h:Gs w0 B tb lb gb nb V tg n M w)(k:Kept w.heap.size w.heap.size w w1):Gs w0 B tb lb gb nb V tg n M w1:=by
 obtain⟨v,h1,h2⟩:=h.lst;have up:∀ (b:Nat) (o:Obj),w.heap[b]? = some o→w1.heap[b]? = some o:=fun b o e=>rk e k
 exact⟨h.kp.trans (k.mono h.base (fun i hi _=>Nat.ne_of_lt (Nat.lt_of_lt_of_le hi h.base))),Nat.le_trans h.base k.size,up _ _ h.tree,up _ _ h.gat,up _ _ h.num,⟨v,up _ _ h1,h2.kept k⟩,h.low⟩
theorem Gs.drew (h:Gs w0 B tb lb gb nb V tg n M w):Gs w0 B tb lb gb nb V tg n M w.drew:=h.kept (Kept.refl _ _ _).drew
theorem Gs.add (h:Gs w0 B tb lb gb nb V tg n M w)(z:Int)(hM:M.length < 90000):
  ∃ ad m c ad' c' w9,w.heap[lb]? = some (.cells #[.slice ad m c] 29 (0,0))∧(Builtin.append_ #[29,29] 29 #[.slice ad m c,.slice (some ⟨w.heap.size,0,none⟩) 1 1]).run Try.prog (w.alloc (.cells #[.int .i64 z] 3)) = .ok (.slice ad' (m + 1) c') w9 ∧
   w9.heap[lb]? = some (.cells #[.slice ad m c] 29 (0,0))∧Gs w0 B tb lb gb nb V tg n (M ++ [z]) (w9.setCell ⟨lb,0,none⟩ (.slice ad' (m + 1) c')):=by
 obtain⟨v,h1,h2⟩:=h.lst;obtain⟨l1,l2,l3,l4,d1,d2,d3⟩:=h.low;have ia:=h2.alloc (.cells #[.int .i64 z] 3)
 have ka:=h.kp.alloc h.base (.cells #[.int .i64 z] 3)
 have hsz:B≤(w.alloc (.cells #[.int .i64 z] 3)).heap.size:=by have:=h.base; simp; omega
 have up:∀ (b:Nat) (o:Obj),w.heap[b]? = some o→(w.alloc (.cells #[.int .i64 z] 3)).heap[b]? = some o:=fun b o e=>(heap_alloc_old w _ (lt_of_block e)).trans e
 obtain⟨v9,w9,e9,i9,g9⟩:=append_intR _ B v M z ia w.heap.size 1 (one_cellT (heap_new w (.cells #[.int .i64 z] 3))) (by omega) hsz
 have hbo:∀ q,v.ownBlock = some q→B≤q:=fun q e=>(World.ownsRow.lt ia q e).1
 have k9:=ka.grown g9 hsz hbo;have up9:∀ (b:Nat) (o:Obj),b < B→w.heap[b]? = some o→w9.heap[b]? = some o:=fun b o hb e=>(g9.block b (lt_of_block (up b o e)) (fun q=>by have:=hbo b q.symm; omega)).trans (up b o e)
 obtain⟨ad,c,rfl⟩:=(ints_nums h2).shape;obtain⟨ad',c',rfl⟩:=(ints_nums i9).shape;have hl9:=up9 lb _ l2 h1;have up10:∀ (b:Nat) (o:Obj),b < B→b≠lb→w.heap[b]? = some o→(w9.setCell ⟨lb,0,none⟩ (.slice ad' (M ++ [z]).length c')).heap[b]? = some o:=fun b o hb hn e=>(setCell_other w9 lb 0 _ b hn).trans (up9 b o hb e)
 have hs9:(w9.setCell ⟨lb,0,none⟩ (.slice ad' (M ++ [z]).length c')).heap[lb]? = some (.cells #[.slice ad' (M ++ [z]).length c'] 29 (0,0)):=by
  have:=cells_set (cs:=[.slice ad M.length c]) hl9 0 (.slice ad' (M ++ [z]).length c')
  simpa using this
 have i10:Ints (w9.setCell ⟨lb,0,none⟩ (.slice ad' (M ++ [z]).length c')) B (.slice ad' (M ++ [z]).length c') (M ++ [z]):=World.ownsRow.kept i9 (grown_set w9 lb 0 _) (.inr (fun e=>by have:=(World.ownsRow.lt i9 lb e).1; omega))
 refine⟨ad,M.length,c,ad',c',w9,h1,by have:=e9; rwa [List.length_append] at this,hl9,?_⟩
 rw [List.length_append,List.length_singleton] at hs9 i10 up10;exact⟨k9.set (.inl rfl) 0 _,by simpa [World.setCell] using Nat.le_trans hsz g9.size,up10 tb _ l1 d1 h.tree,up10 gb _ l3 d2 h.gat,up10 nb _ l4 d3 h.num,⟨_,hs9,i10⟩,h.low⟩
end
theorem intsInfo8:(Try.prog.info? 29).map (·.size) = some 1:=by kernel_rfl
theorem gather_leaf (L:List Lf)(P:List Pr)(hF:Tt.Fine L P)(a:Nat)(ha:a < L.length)(w0:World)(B tb lb gb nb:Nat)(lad pad:Option Addr)(lc pc pn:Nat)(tg:TypeId)(M:List Int)(w:World)
  (hLv:∀ M x,Gs w0 B tb lb gb nb #[.slice lad L.length lc,.slice pad pn pc] tg L.length M x→Lvs x (.slice lad L.length lc) L) (hM:M.length≤80000) (hG:Gs w0 B tb lb gb nb #[.slice lad L.length lc,.slice pad pn pc] tg L.length M w) :
  Calls Try.prog 20 #[.int .i64 ((Bo.root a 1:Nat):Int),.pointer (some ⟨tb,0,none⟩),.pointer (some ⟨lb,0,none⟩),.pointer (some ⟨gb,0,none⟩),.pointer (some ⟨nb,0,none⟩)] w fun e w'=>e = .returned (.tuple #[])∧Gs w0 B tb lb gb nb #[.slice lad L.length lc,.slice pad pn pc] tg L.length (M ++ if L[a].name = 0 then [] else [((Bo.root a 1:Nat):Int)]) w':=by
 have h64:=hF.n64;obtain⟨lad',lg,lo,lc',hsl,hlc,_⟩:=hLv M w hG;injection hsl with hs1 _ hs2
 subst hs1 hs2;obtain⟨rfl,hg,hok,hr⟩:=hlc a ha;have HIB:=hid (isblank_calls L[a]);have HINF:=hid (show(Try.prog.info? 36).map (·.size) = some L[a].cells.length by have:=leafInfo (Lf.size hok); simpa using this)
 obtain⟨nm,hnm⟩:∃ nm,nm = L[a].name:=⟨_,rfl⟩;rw [← hnm] at HIB ⊢;obtain⟨ct,hct⟩:∃ ct,ct = L[a].cells:=⟨_,rfl⟩;rw [← hct] at hr HINF HIB;obtain⟨ln,hln⟩:∃ ln,ln = L.length:=⟨_,rfl⟩;rw [← hln] at hG ⊢;have hal:(a:Int) < (ln:Int):=by omega
 have ha0:¬ (a:Int) < 0:=by omega
 obtain⟨x,hx⟩:∃ x:Int,x = ((Bo.root a 1:Nat):Int):=⟨_,rfl⟩;have hx2:x = 2 * (a:Int):=by rw [hx,Bo.root_one]; omega
 rw [← hx];have hxm:x.tmod 2 = 0:=by rw [hx2,Int.tmod_eq_emod_of_nonneg (by omega)]; omega
 have HQU:=hid (show IntKind.i64.wrap (x.tdiv 2) = (a:Int) by rw [show x.tdiv 2 = (a:Int) by rw [hx2,Int.tdiv_eq_ediv_of_nonneg (by omega)]; omega,wrap_small _ (by omega) (by omega)])
 have HIL:=hid (fun u=>isleaf_yes x (by rw [hxm]; rfl) hxm u)
 have HLD:=hid (run_loadVar_mid w lg (lo + a * 97) 36 ct _ hr Try.underlying36 rfl HINF.out)
 have HM:=hid hM;have HG:=hid hG;have t0:=two_cell0 hG.tree;obtain⟨RR,hRR⟩:∃ RR,RR = M ++ (if nm = 0 then [] else [x]):=⟨_,rfl⟩
 rw [← hRR];have HRR:=hid hRR;clear hLv hM hG hg hok hr hlc hct hln hx hx2 hxm hRR h64 hF hnm ha
 by_cases hz:nm = 0
 ·have HRB:=hid (show RR = M by rw [HRR.out,if_pos hz,List.append_nil])
  have hz0:(nm == 0) = true:=by rw [beq_iff_eq]; exact hz
  rw [hz0] at HIB;clear hz hz0 HRR
  go_enter Try.func20,Try.ntmps20
  go_upto_region 0 with fail
  refine wp_region_lit ?_;refine @wQ _ _ _ _ _ _ _ ?_ ?_;kernel_rfl;intro K hK;go_simp;refine hK _ _ ?_;clear hK K;refine @wQ _ _ _ _ _ _ _ ?_ ?_;kernel_rfl;intro K hK;go_simp;go_at_call 21
  refine(HIL.out _).mono ?_;rintro e wx ⟨rfl,hwx⟩;subst wx;refine hK _ _ ?_;clear hK K
  go_upto_region 1 with fail
  refine wp_region_lit ?_;iterate 4 (refine @wQ _ _ _ _ _ _ _ ?_ ?_;kernel_rfl;intro K hK;go_simp;refine hK _ _ ?_;clear hK K)
  rw [HQU.out];refine @wQ _ _ _ _ _ _ _ ?_ ?_;kernel_rfl;intro K hK;go_simp;refine hK _ _ ?_;clear hK K;refine @wpList_load_known _ _ _ _ _ _ _ ?_ 36 (.tmp 14) rfl (lg) (lo + a * 97) rfl (.agg ct.toArray) (HLD.out) ?_;kernel_rfl
  simp only [Act.put,sA,sB,sC];refine @wQ _ _ _ _ _ _ _ ?_ ?_;kernel_rfl;intro K hK;go_simp;go_at_call 22
  refine(HIB.out _).mono ?_;rintro e w2 ⟨rfl,k2⟩;have G2:=hid (HG.out.kept k2);clear k2;refine hK _ _ ?_;clear hK K;refine @wQ _ _ _ _ _ _ _ ?_ ?_;kernel_rfl;intro K hK;go_simp;refine hK _ _ ?_;clear hK K;clear t0;go_wp2;refine bodyPost_ret (results_none rfl _ _ _) rfl ?_;exact⟨rfl,by rw [HRB.out]; exact G2.out⟩
 ·have HRB:=hid (show RR = M ++ [x] by rw [HRR.out,if_neg hz])
  have hz0:(nm == 0) = false:=by rw [beq_eq_false_iff_ne]; exact hz
  rw [hz0] at HIB;clear hz hz0 HRR
  go_enter Try.func20,Try.ntmps20
  go_upto_region 0 with fail
  refine wp_region_lit ?_;refine @wQ _ _ _ _ _ _ _ ?_ ?_;kernel_rfl;intro K hK;go_simp;refine hK _ _ ?_;clear hK K;refine @wQ _ _ _ _ _ _ _ ?_ ?_;kernel_rfl;intro K hK;go_simp;go_at_call 21
  refine(HIL.out _).mono ?_;rintro e wx ⟨rfl,hwx⟩;subst wx;refine hK _ _ ?_;clear hK K
  go_upto_region 1 with fail
  refine wp_region_lit ?_;iterate 4 (refine @wQ _ _ _ _ _ _ _ ?_ ?_;kernel_rfl;intro K hK;go_simp;refine hK _ _ ?_;clear hK K)
  rw [HQU.out];refine @wQ _ _ _ _ _ _ _ ?_ ?_;kernel_rfl;intro K hK;go_simp;refine hK _ _ ?_;clear hK K;refine @wpList_load_known _ _ _ _ _ _ _ ?_ 36 (.tmp 14) rfl (lg) (lo + a * 97) rfl (.agg ct.toArray) (HLD.out) ?_;kernel_rfl
  simp only [Act.put,sA,sB,sC];refine @wQ _ _ _ _ _ _ _ ?_ ?_;kernel_rfl;intro K hK;go_simp;go_at_call 22
  refine(HIB.out _).mono ?_;rintro e w2 ⟨rfl,k2⟩;have G2:=hid (HG.out.kept k2);clear k2;refine hK _ _ ?_;clear hK K;refine @wQ _ _ _ _ _ _ _ ?_ ?_;kernel_rfl;intro K hK;go_simp;refine hK _ _ ?_;clear hK K;clear t0;obtain⟨ad,m,c,adn,cn,w9,h9,e9,l9,g9⟩:=G2.out.add x (by have:=HM.out; omega)
  have c0:w2.cell? ⟨lb,0,none⟩ = some (.slice ad m c):=one_cellT h9;have L9:=hid l9;have G9:=hid g9;have E9:=hid e9;clear h9 l9 g9 e9
  go_upto_region 2 with fail
  refine wp_region_lit ?_;refine @wpList_load_known _ _ _ _ _ _ _ ?_ 29 (.tmp 2) rfl (lb) (0) rfl (.slice ad m c) (load_ints c0) ?_;kernel_rfl
  simp only [Act.put,sA,sB,sC];iterate 2 (refine @wQ _ _ _ _ _ _ _ ?_ ?_;kernel_rfl;intro K hK;go_simp;refine hK _ _ ?_;clear hK K)
  refine wpList_append_known rfl (.tmp 18) (.tmp 20) 29 29 29 rfl rfl (.slice ad m c) (.slice (some ⟨w2.heap.size,0,none⟩) 1 1) rfl rfl E9.out ?_
  simp only [Act.put,sA,sB,sC];refine @wpL_store_part _ _ _ _ _ _ _ ?_ 29 _ _ rfl lb 0 [.slice ad m c] 29 (.slice adn (m + 1) cn) rfl rfl L9.out (Nat.zero_lt_succ _) rfl intsInfo8 ?_;kernel_rfl
  simp only [Act.put];clear c0;go_wp2;refine bodyPost_ret (results_none rfl _ _ _) rfl ?_;exact⟨rfl,by rw [HRB.out]; exact G9.out⟩
theorem ints_more {w:World}{b b':Nat}{v:Value}{l:List Int}(h:Ints w b v l)(hb:b'≤b):Ints w b' v l:=owns_lower h hb
theorem ints_none (w:World)(b:Nat):Ints w b (.slice none 0 0) []:=World.ownsRow_nil _ _ _ _
namespace Tt
def resNode (L:List Lf)(P:List Pr)(x:Nat):List Int:=resSeg L P L.length (Bo.part L.length x).1 (Bo.part L.length x).2.1
end Tt
theorem load_func8 {w:World}{g:Nat}{f:Fn}{c1 c2:Array Value}(h:w.cell? ⟨g,0,none⟩ = some (.func f c1 c2)):(loadVar 58 ⟨g,0,none⟩).run Try.prog w = .ok (.func f c1 c2) w:=by
 go_simp
theorem gather_calls (L:List Lf)(P:List Pr)(hF:Tt.Fine L P)(n pn:Nat)(hn:n = L.length)(hpn:pn = P.length)(hn1:1≤n)(lad pad:Option Addr)(lc pc:Nat)(we:World)(hL:Lvs we (.slice lad n lc) L)(hP:Pts we (.slice pad pn pc) P)(w0:World)(B tb lb gb nb:Nat)
  (hWe:∀ M x,Gs w0 B tb lb gb nb #[.slice lad n lc,.slice pad pn pc] 58 n M x→Kept we.heap.size we.heap.size we x):∀ (k a m:Nat) (p b:Int),m≤k→Bo.Seg n a m p b→∀ (M:List Int) (w:World),M.length + 1001 * m≤80000→Gs w0 B tb lb gb nb #[.slice lad n lc,.slice pad pn pc] 58 n M w →
  Calls Try.prog 20 #[.int .i64 ((Bo.root a m:Nat):Int),.pointer (some ⟨tb,0,none⟩),.pointer (some ⟨lb,0,none⟩),.pointer (some ⟨gb,0,none⟩),.pointer (some ⟨nb,0,none⟩)] w fun e w'=>e = .returned (.tuple #[])∧Gs w0 B tb lb gb nb #[.slice lad n lc,.slice pad pn pc] 58 n (M ++ Tt.resSeg L P k a m) w':=by
 intro k
 induction k with
 | zero=>
  intro a m p b h1 h2;have:=(h2.size hn1).1
  omega
 | succ k ih=>
  intro a m p b hmk hseg M w hM hG;obtain⟨hm1,ham⟩:=hseg.size hn1;have h64:n≤64:=by rw [hn]; exact hF.n64
  by_cases h1:m = 1
  ·subst h1
   have ha:a < L.length:=by omega
   have hget:L.getD a Lf.zero = L[a]:=by rw [List.getD_eq_getElem?_getD,List.getElem?_eq_getElem ha]; rfl
   have hres:Tt.resSeg L P (k + 1) a 1 = if L[a].name = 0 then [] else [((Bo.root a 1:Nat):Int)]:=by rw [Tt.resSeg,if_pos rfl,hget]
   rw [hres];subst hn;exact gather_leaf L P hF a ha w0 B tb lb gb nb lad pad lc pc pn 58 M w (fun M x h=>hL.kept (hWe M x h)) (by omega) hG
  ·have h2:2≤m:=by omega
   have hh1:=Bo.half_pos m;have hh2:=Bo.half_lt h2;have hrt:=Bo.root_two (a:=a) h2;obtain⟨j,hj⟩:∃ j,j = Bo.root a m / 2:=⟨_,rfl⟩;have hxj:Bo.root a m = 2 * j + 1:=by omega
   have hjP:j < P.length:=by rw [hF.par]; omega
   obtain⟨pad',pg,po,pc',hsl,hpc,_⟩:=hP;injection hsl with hs1 hs0 hs2
   subst hs1 hs2;obtain⟨rfl,hg,hok,sl,hr,hnums⟩:=hpc j hjP;have hget:P.getD (Bo.root a m / 2) Pr.zero = P[j]:=by rw [← hj,List.getD_eq_getElem?_getD,List.getElem?_eq_getElem hjP]; rfl
   have hl9:=hF.len _ (List.getElem_mem hjP);have hlse:=hF.lse _ (List.getElem_mem hjP);have eside:=(Bo.say_sides (hseg.inn hn1) h64 (hseg.part hn1 h64)).2 h1;have HLE:=hid (fun u=>left_calls_of lenIs (n:Int) ((Bo.root a m:Nat):Int) u)
   have HRI:=hid (fun u=>right_calls_of lenIs (n:Int) ((Bo.root a m:Nat):Int) u)
   rw [eside.1] at HLE;rw [eside.2] at HRI;have hres:Tt.resSeg L P (k + 1) a m = if P[j].set then ((Bo.root a m:Nat):Int) :: P[j].loose.map (fun y=>2 * y) else Tt.resSeg L P k a (Bo.half m) ++ Tt.resSeg L P k (a + Bo.half m) (m - Bo.half m):=by rw [Tt.resSeg,if_neg h1,hget]
   rw [hres];have hR1:=Tt.resSeg_length L P hF.len k a (Bo.half m) hh1;have hmul:1001 * Bo.half m + 1001 * (m - Bo.half m) = 1001 * m:=by rw [← Nat.mul_add]; congr 1; omega
   have HH1:=hid (fun(u:World) (g:Gs w0 B tb lb gb nb #[.slice lad n lc,.slice (some ⟨pg,po,none⟩) pn pc] 58 n M u)=>ih a (Bo.half m) _ _ (by omega) (hseg.left h2) M u (by omega) g)
   have HH2:=hid (fun(u:World) (g:Gs w0 B tb lb gb nb #[.slice lad n lc,.slice (some ⟨pg,po,none⟩) pn pc] 58 n (M ++ Tt.resSeg L P k a (Bo.half m)) u)=>ih (a + Bo.half m) (m - Bo.half m) _ _ (by omega) (hseg.right h2) _ u (by rw [List.length_append]; omega) g)
   obtain⟨R1,hR1x⟩:∃ R,R = Tt.resSeg L P k a (Bo.half m):=⟨_,rfl⟩;obtain⟨R2,hR2x⟩:∃ R,R = Tt.resSeg L P k (a + Bo.half m) (m - Bo.half m):=⟨_,rfl⟩;rw [← hR1x] at HH1 HH2 ⊢;rw [← hR2x] at HH2 ⊢;obtain⟨y1,hy1⟩:∃ y:Int,y = ((Bo.root a (Bo.half m):Nat):Int):=⟨_,rfl⟩;obtain⟨y2,hy2⟩:∃ y:Int,y = ((Bo.root (a + Bo.half m) (m - Bo.half m):Nat):Int):=⟨_,rfl⟩;rw [← hy1] at HLE HH1;rw [← hy2] at HRI HH2;obtain⟨x,hx⟩:∃ x:Int,x = ((Bo.root a m:Nat):Int):=⟨_,rfl⟩;rw [← hx] at HLE HRI ⊢;have hx2:x = 2 * (j:Int) + 1:=by rw [hx,hxj]; omega
   have hxm:x.tmod 2 = 1:=by rw [hx2,Int.tmod_eq_emod_of_nonneg (by omega)]; omega
   have HQU:=hid (show IntKind.i64.wrap (x.tdiv 2) = (j:Int) by rw [show x.tdiv 2 = (j:Int) by rw [hx2,Int.tdiv_eq_ediv_of_nonneg (by omega)]; omega,wrap_small _ (by omega) (by omega)])
   have HIL:=hid (fun u=>isleaf_no x (by rw [hxm]; rfl) hxm u)
   have hjl:(j:Int) < (pn:Int):=by omega
   have hj0:¬ (j:Int) < 0:=by omega
   obtain⟨sad,sc,ng,no,rfl,hnc⟩:=hnums;have hset:=hr 0 (.bool P[j].set) (by simp [Pr.cells])
   rw [Nat.add_zero] at hset;have hlo:=hr 65 (.slice sad P[j].loose.length sc) (by simp [Pr.cells,bcells_length,hok.1,hok.2])
   obtain⟨sn,hsn⟩:∃ sn,sn = P[j].loose.length:=⟨_,rfl⟩;rw [← hsn] at hlo hl9;have HSN:=hid hsn;have HNC:=hid hnc;have HLO:=hid hlse;have HWE:=hid hWe;have HCS:=hid (fun(u:World) (kk:Kept we.heap.size we.heap.size we u)=>(kk.cell (p:=⟨pg,po + j * 66,none⟩) hg (Nat.ne_of_lt hg)).trans hset)
   have HCL:=hid (fun(u:World) (kk:Kept we.heap.size we.heap.size we u)=>(kk.cell (p:=⟨pg,po + j * 66 + 65,none⟩) hg (Nat.ne_of_lt hg)).trans hlo)
   have HG:=hid hG;have HMM:=hid (show M.length + 1001≤80000 by omega)
   obtain⟨st,hst⟩:∃ st,st = P[j].set:=⟨_,rfl⟩;rw [← hst] at HCS ⊢;obtain⟨RR,hRR⟩:∃ RR:List Int,RR = (if st = true then x :: P[j].loose.map (fun y=>2 * y) else R1 ++ R2):=⟨_,rfl⟩
   rw [← hRR];have HRR:=hid hRR;have hc1:=HCS.out w (hWe M w hG);have t0:=two_cell1 hG.tree;clear hRR ih hmk hseg hm1 ham hL hpc hget hok hlse eside hst hsn hnc hR1 hR1x hR2x hres hy1 hy2 hx hx2 hxm hset hlo hg hr hh1 hh2 hrt hj hxj h1 h2 hn hF hWe hG hM hmul h64 hn1 hpn hs0
   go_enter Try.func20,Try.ntmps20
   go_upto_region 0 with fail
   refine wp_region_lit ?_;refine @wQ _ _ _ _ _ _ _ ?_ ?_;kernel_rfl;intro K hK;go_simp;refine hK _ _ ?_;clear hK K;refine @wQ _ _ _ _ _ _ _ ?_ ?_;kernel_rfl;intro K hK;go_simp;go_at_call 21
   refine(HIL.out _).mono ?_;rintro e wx ⟨rfl,hwx⟩;subst wx;refine hK _ _ ?_;clear hK K
   go_upto_region 3 with fail
   refine wp_region_lit ?_;iterate 4 (refine @wQ _ _ _ _ _ _ _ ?_ ?_;kernel_rfl;intro K hK;go_simp;refine hK _ _ ?_;clear hK K)
   rw [HQU.out];iterate 4 (refine @wQ _ _ _ _ _ _ _ ?_ ?_;kernel_rfl;intro K hK;go_simp;refine hK _ _ ?_;clear hK K)
   clear t0 hc1
   cases st with
   | true=>
    have HRB:=hid (show RR = x :: P[j].loose.map (fun y=>2 * y) by rw [HRR.out,if_pos rfl])
    clear HRR HH1 HH2 HLE HRI;have HW1:=hid (HWE.out _ _ HG.out);obtain⟨ad,m',c,adn,cn,w9,h9,e9,l9,g9⟩:=HG.out.add x (by have:=HMM.out; omega)
    have c0:w.cell? ⟨lb,0,none⟩ = some (.slice ad m' c):=one_cellT h9;have L9:=hid l9;have E9:=hid e9
    have G9:Hid (Gs w0 B tb lb gb nb #[.slice lad n lc,.slice (some ⟨pg,po,none⟩) pn pc] 58 n (M ++ x :: (P[j].loose.take 0).map (fun y=>2 * y)) (w9.setCell ⟨lb,0,none⟩ (.slice adn (m' + 1) cn))):=hid (by
     rw [List.take_zero]
     exact g9)
    clear h9 l9 g9 e9
    go_upto_region 6 with fail
    refine wp_region_lit ?_;refine @wpList_load_known _ _ _ _ _ _ _ ?_ 29 (.tmp 2) rfl (lb) (0) rfl (.slice ad m' c) (load_ints c0) ?_;kernel_rfl
    simp only [Act.put,sA,sB,sC];iterate 2 (refine @wQ _ _ _ _ _ _ _ ?_ ?_;kernel_rfl;intro K hK;go_simp;refine hK _ _ ?_;clear hK K)
    refine wpList_append_known rfl (.tmp 40) (.tmp 42) 29 29 29 rfl rfl (.slice ad m' c) (.slice (some ⟨w.heap.size,0,none⟩) 1 1) rfl rfl E9.out ?_
    simp only [Act.put,sA,sB,sC];refine @wpL_store_part _ _ _ _ _ _ _ ?_ 29 _ _ rfl lb 0 [.slice ad m' c] 29 (.slice adn (m' + 1) cn) rfl rfl L9.out (Nat.zero_lt_succ _) rfl intsInfo8 ?_;kernel_rfl
    simp only [Act.put];clear c0 L9 E9;generalize w9.setCell ⟨lb,0,none⟩ (.slice adn (m' + 1) cn) = wa at G9 ⊢;have t0:=two_cell1 G9.out.tree;have cl:=HCL.out _ (HWE.out _ _ G9.out)
    go_upto_region 7 with fail
    refine wp_region_lit ?_;iterate 4 (refine @wQ _ _ _ _ _ _ _ ?_ ?_;kernel_rfl;intro K hK;go_simp;refine hK _ _ ?_;clear hK K)
    rw [HQU.out];iterate 5 (refine @wQ _ _ _ _ _ _ _ ?_ ?_;kernel_rfl;intro K hK;go_simp;refine hK _ _ ?_;clear hK K)
    clear t0 cl;go_wp2
    go_loopw [52] (fun s52 wr=>∃ i:Nat,s52 = .int .i64 (i:Int)∧Hid (i≤sn)∧Hid (Gs w0 B tb lb gb nb #[.slice lad n lc,.slice (some ⟨pg,po,none⟩) pn pc] 58 n (M ++ x :: (P[j].loose.take i).map (fun y=>2 * y)) wr)) (fun s52 _=>sn - (RowKit.intOf s52).toNat)
    case atStart=>exact⟨0,rfl,hid (Nat.zero_le _),G9⟩
    case round=>
     clear G9;obtain⟨i,rfl,hi,HU⟩:=hrel
     by_cases hlt:i < sn
     ·have hiL:i < P[j].loose.length:=by rw [← HSN.out]; exact hlt
      have hlti:(i:Int) < (sn:Int):=by omega
      have hi0:¬ (i:Int) < 0:=by omega
      obtain⟨hsad,hg,hcell⟩:=HNC.out i hiL;subst hsad;obtain⟨y,hy⟩:∃ y,y = P[j].loose[i]:=⟨_,rfl⟩;obtain⟨hy0,hy1⟩:=HLO.out _ (List.getElem_mem hiL);rw [← hy] at hcell hy0 hy1;have kwr:=HWE.out _ _ HU.out;have cy:=(kwr.cell (p:=⟨ng,no + i,none⟩) hg (Nat.ne_of_lt hg)).trans hcell;have HWM:=hid (show IntKind.i64.wrap (2 * y) = 2 * y from wrap_small _ (by omega) (by omega))
      obtain⟨z,hz⟩:∃ z,z = 2 * y:=⟨_,rfl⟩;have HZ:=hid hz
      have HTK:=hid (show M ++ x :: (P[j].loose.take i).map (fun y=>2 * y) ++ [z] = M ++ x :: (P[j].loose.take (i + 1)).map (fun y=>2 * y) by
       rw [List.take_succ_eq_append_getElem hiL,List.map_append,← hy,hz,List.append_assoc]
       rfl)
      have hML:(M ++ x :: (P[j].loose.take i).map (fun y=>2 * y)).length < 90000:=by
       rw [List.length_append,List.length_cons,List.length_map,List.length_take];have:=HMM.out
       omega
      obtain⟨ad,m',c,adn,cn,w9,h9,e9,l9,g9⟩:=HU.out.add z hML;rw [HTK.out] at g9;have c0:wr.cell? ⟨lb,0,none⟩ = some (.slice ad m' c):=one_cellT h9;have L9:=hid l9;have E9:=hid e9;have G9:=hid g9;have HLTT:=hid hlt;clear h9 l9 g9 e9 hML hz hlt hi hiL hg hcell hy hy0 hy1 kwr
      go_upto_region 9 with fail
      refine wp_region_lit ?_;iterate 3 (refine @wQ _ _ _ _ _ _ _ ?_ ?_;kernel_rfl;intro K hK;go_simp;refine hK _ _ ?_;clear hK K)
      clear cy
      go_upto_region 10 with fail
      refine wp_region_lit ?_;refine @wpList_load_known _ _ _ _ _ _ _ ?_ 29 (.tmp 2) rfl (lb) (0) rfl (.slice ad m' c) (load_ints c0) ?_;kernel_rfl
      simp only [Act.put,sA,sB,sC];iterate 2 (refine @wQ _ _ _ _ _ _ _ ?_ ?_;kernel_rfl;intro K hK;go_simp;refine hK _ _ ?_;clear hK K)
      rw [HWM.out,← HZ.out];refine @wQ _ _ _ _ _ _ _ ?_ ?_;kernel_rfl;intro K hK;go_simp;refine hK _ _ ?_;clear hK K;refine wpList_append_known rfl (.tmp 56) (.tmp 59) 29 29 29 rfl rfl (.slice ad m' c) (.slice (some ⟨wr.heap.size,0,none⟩) 1 1) rfl rfl E9.out ?_
      simp only [Act.put,sA,sB,sC];refine @wpL_store_part _ _ _ _ _ _ _ ?_ 29 _ _ rfl lb 0 [.slice ad m' c] 29 (.slice adn (m' + 1) cn) rfl rfl L9.out (Nat.zero_lt_succ _) rfl intsInfo8 ?_;kernel_rfl
      simp only [Act.put];clear c0 L9 E9;generalize w9.setCell ⟨lb,0,none⟩ (.slice adn (m' + 1) cn) = wa2 at G9 ⊢;go_wp2
      go_roundw
      case rel=>exact⟨i + 1,by simp,hid HLTT.out,G9⟩
      case measure=>have:=HLTT.out; simp [RowKit.intOf]; omega
     ·have hnl:¬ (i:Int) < (sn:Int):=by omega
      have HE:=hid (show P[j].loose.take i = P[j].loose by rw [List.take_of_length_le]; have:=hi.out; have:=HSN.out; omega)
      rw [HE.out] at HU;clear hlt hi;go_wp2
      first
       | (refine bodyPost_ret (results_none rfl _ _ _) rfl ?_; exact⟨rfl,by rw [HRB.out]; exact HU.out⟩)
       | exact⟨rfl,.tuple #[],results_none rfl _ _ _,rfl,by rw [HRB.out]; exact HU.out⟩
   | false=>
    have HRB:=hid (show RR = R1 ++ R2 by rw [HRR.out,if_neg (by decide)])
    clear HRR;have HGF:=hid (fun(u:World) (h:∃ M',Gs w0 B tb lb gb nb #[.slice lad n lc,.slice (some ⟨pg,po,none⟩) pn pc] 58 n M' u)=>load_func8 (one_cellT (h.elim fun _ g=>g.gat)))
    have HGN:=hid (fun(u:World) (h:∃ M',Gs w0 B tb lb gb nb #[.slice lad n lc,.slice (some ⟨pg,po,none⟩) pn pc] 58 n M' u)=>load_int (one_cellT (h.elim fun _ g=>g.num)))
    go_upto_region 4 with fail
    refine wp_region_noPanic ?_;refine wp_region_held_drew (S:=fun w'=>∃ M',Gs w0 B tb lb gb nb #[.slice lad n lc,.slice (some ⟨pg,po,none⟩) pn pc] 58 n M' w') (by kernel_rfl) ⟨_,HG.out.drew⟩ (fun hH=>?_)
    refine wpAnyH_take_at (i:=0) 30 (.func (.func 20) #[] #[.pointer (some ⟨tb,0,none⟩),.pointer (some ⟨lb,0,none⟩),.pointer (some ⟨gb,0,none⟩),.pointer (some ⟨nb,0,none⟩)]) rfl rfl (by kernel_rfl) (by kernel_rfl) (by kernel_rfl) (fun _ _ _ h=>h) (yieldsIf_load_known (by kernel_rfl) 58 _ rfl (gb) (0) rfl (.func (.func 20) #[] #[.pointer (some ⟨tb,0,none⟩),.pointer (some ⟨lb,0,none⟩),.pointer (some ⟨gb,0,none⟩),.pointer (some ⟨nb,0,none⟩)]) (fun w' hw'=>HGF.out w' hw')) hH ?_
    simp only [sA,sB,sC];refine wpAnyH_take_at (i:=1) 31 (.int .i64 (n:Int)) rfl rfl (by kernel_rfl) (by kernel_rfl) (by kernel_rfl) (fun _ _ _ h=>h) (yieldsIf_load_known (by kernel_rfl) 3 _ rfl (nb) (0) rfl (.int .i64 (n:Int)) (fun w' hw'=>HGN.out w' hw')) hH ?_
    simp only [sA,sB,sC];refine wpAnyH_take_ex (i:=2) 32 rfl rfl (by kernel_rfl) (by kernel_rfl) (by kernel_rfl) (fun _ _ _ _ h=>h) (by kernel_rfl) hH ?_
    apply Exists.intro;apply And.intro
    ·intro w9 _
     go_simp
     first | done | rfl
    simp only [sA,sB,sC];refine wpAnyH_ready (rs:=[3]) (by kernel_rfl) (by simp) ?_
    refine AllReadyH.cons rfl (fun K hK=>?_) AllReadyH.nil
    rw [if_pos (by rfl)]
    go_simp
    go_wp2_with (go_at_call 23; refine(HLE.out _).mono ?_; rintro e wl ⟨rfl,kwl⟩)
    have Gwl:=HG.out.drew.kept kwl;refine hK.out _ _ ⟨_,Gwl⟩ (fun hH=>?_)
    clear hK K;refine wpAnyH_ready (rs:=[4]) (by kernel_rfl) (by simp) ?_
    refine AllReadyH.cons rfl (fun K hK=>?_) AllReadyH.nil
    rw [if_pos (by rfl)]
    go_simp
    go_wp2_with (go_at_call 20; refine(HH1.out _ Gwl).mono ?_; rintro e w4 ⟨rfl,gw4⟩)
    have G4:=hid gw4;refine hK.out _ _ ⟨_,gw4⟩ (fun hH=>?_)
    clear hK K;refine wpAnyH_done (by kernel_rfl) ?_ _
    refine NoPanic.normal ?_;clear kwl Gwl gw4 hH
    go_upto_region 5 with fail
    refine wp_region_noPanic ?_;refine wp_region_held_drew (S:=fun w'=>∃ M',Gs w0 B tb lb gb nb #[.slice lad n lc,.slice (some ⟨pg,po,none⟩) pn pc] 58 n M' w') (by kernel_rfl) ⟨_,G4.out.drew⟩ (fun hH=>?_)
    refine wpAnyH_take_at (i:=0) 35 (.func (.func 20) #[] #[.pointer (some ⟨tb,0,none⟩),.pointer (some ⟨lb,0,none⟩),.pointer (some ⟨gb,0,none⟩),.pointer (some ⟨nb,0,none⟩)]) rfl rfl (by kernel_rfl) (by kernel_rfl) (by kernel_rfl) (fun _ _ _ h=>h) (yieldsIf_load_known (by kernel_rfl) 58 _ rfl (gb) (0) rfl (.func (.func 20) #[] #[.pointer (some ⟨tb,0,none⟩),.pointer (some ⟨lb,0,none⟩),.pointer (some ⟨gb,0,none⟩),.pointer (some ⟨nb,0,none⟩)]) (fun w' hw'=>HGF.out w' hw')) hH ?_
    simp only [sA,sB,sC];refine wpAnyH_take_at (i:=1) 36 (.int .i64 (n:Int)) rfl rfl (by kernel_rfl) (by kernel_rfl) (by kernel_rfl) (fun _ _ _ h=>h) (yieldsIf_load_known (by kernel_rfl) 3 _ rfl (nb) (0) rfl (.int .i64 (n:Int)) (fun w' hw'=>HGN.out w' hw')) hH ?_
    simp only [sA,sB,sC];refine wpAnyH_take_ex (i:=2) 37 rfl rfl (by kernel_rfl) (by kernel_rfl) (by kernel_rfl) (fun _ _ _ _ h=>h) (by kernel_rfl) hH ?_
    apply Exists.intro;apply And.intro
    ·intro w9 _
     go_simp
     first | done | rfl
    simp only [sA,sB,sC];refine wpAnyH_ready (rs:=[3]) (by kernel_rfl) (by simp) ?_
    refine AllReadyH.cons rfl (fun K hK=>?_) AllReadyH.nil
    rw [if_pos (by rfl)]
    go_simp
    go_wp2_with (go_at_call 24; refine(HRI.out _).mono ?_; rintro e wr ⟨rfl,kwr⟩)
    have Gwr:=G4.out.drew.kept kwr;refine hK.out _ _ ⟨_,Gwr⟩ (fun hH=>?_)
    clear hK K;refine wpAnyH_ready (rs:=[4]) (by kernel_rfl) (by simp) ?_
    refine AllReadyH.cons rfl (fun K hK=>?_) AllReadyH.nil
    rw [if_pos (by rfl)]
    go_simp
    go_wp2_with (go_at_call 20; refine(HH2.out _ Gwr).mono ?_; rintro e w5 ⟨rfl,gw5⟩)
    have G5:=hid gw5;refine hK.out _ _ ⟨_,gw5⟩ (fun hH=>?_)
    clear hK K;refine wpAnyH_done (by kernel_rfl) ?_ _
    refine NoPanic.normal ?_;clear kwr Gwr gw5 hH;go_wp2;refine bodyPost_ret (results_none rfl _ _ _) rfl ?_;exact⟨rfl,by rw [HRB.out,← List.append_assoc]; exact G5.out⟩
theorem alloc_int9 (w:World):(Instr.alloc 3 true (.tuple #[])).run Try.prog w = .ok (.pointer (some ⟨w.heap.size,0,none⟩)) (w.alloc (.cells #[.int .i64 0] 3)):=by kernel_rfl
theorem alloc_ints9 (w:World):(Instr.alloc 29 true (.tuple #[])).run Try.prog w = .ok (.pointer (some ⟨w.heap.size,0,none⟩)) (w.alloc (.cells #[.slice none 0 0] 29)):=by kernel_rfl
theorem alloc_func9 (w:World):(Instr.alloc 58 true (.tuple #[])).run Try.prog w = .ok (.pointer (some ⟨w.heap.size,0,none⟩)) (w.alloc (.cells #[.nilFunc] 58)):=by kernel_rfl
theorem intInfo9:(Try.prog.info? 3).map (·.size) = some 1:=by kernel_rfl
theorem funcInfo9:(Try.prog.info? 58).map (·.size) = some 1:=by kernel_rfl
theorem resolve_none8 (lad pad:Option Addr)(ln lc pn pc:Nat)(la1 la2:Option Addr)(l1 c1 l2 c2:Nat)(x:Int)(w:World)
  (hrn:∀ u,Kept w.heap.size w.heap.size w u→Calls Try.prog 18 #[.agg #[.slice lad ln lc,.slice pad pn pc]] u fun e w'=>e = .returned (.agg #[.slice la1 l1 c1,.slice la2 l2 c2])∧Kept u.heap.size u.heap.size u w')
  (hnd:∀ u,Calls Try.prog 19 #[.int .i64 (l1:Int),.int .i64 x] u fun e w'=>e = .returned (.bool false)∧w' = u) :
  Calls Try.prog 6 #[.agg #[.slice lad ln lc,.slice pad pn pc],.int .i64 x] w fun e w'=>e = .returned (.slice none 0 0)∧Kept w.heap.size w.heap.size w w':=by
 have HRN:=hid hrn;have HND:=hid hnd;clear hrn hnd;have k1:=kA w (.cells #[.slice lad ln lc,.slice pad pn pc] 27)
 have t1:=heap_new w (.cells #[.slice lad ln lc,.slice pad pn pc] 27)
 go_enter Try.func6,Try.ntmps6
 go_upto_region 1 with fail
 generalize w.alloc (.cells #[.slice lad ln lc,.slice pad pn pc] 27) = w1 at k1 t1 ⊢
 obtain⟨tb,htb⟩:∃ tb,tb = w.heap.size:=⟨_,rfl⟩;rw [← htb] at t1
 (try rw [← htb])
 have HTB:=hid (show w.heap.size≤tb by omega)
 have K1:=hid k1;have T1:=hid t1;clear k1 t1 htb;refine wp_region_lit ?_;refine @wpList_load_known _ _ _ _ _ _ _ ?_ 27 (.tmp 2) rfl (tb) (0) rfl (.agg #[.slice lad ln lc,.slice pad pn pc]) (run_loadVar_row w1 tb 27 27 _ (0,0) _ T1.out Try.underlying27 rfl treeInfo) ?_;kernel_rfl
 simp only [Act.put,sA,sB,sC];refine @wQ _ _ _ _ _ _ _ ?_ ?_;kernel_rfl;intro K hK;go_simp;go_at_call 18
 refine(HRN.out _ K1.out).mono ?_;rintro e w2 ⟨rfl,k2⟩;have K2:=hid (K1.out.next1 k2);have T2:=hid (rk T1.out k2);clear k2;refine hK _ _ ?_;clear hK K;refine wpList_store_row rfl 27 _ _ rfl (tb) #[.slice la1 l1 c1,.slice la2 l2 c2] rfl rfl 27 #[.slice lad ln lc,.slice pad pn pc] T2.out treeInfo rfl (tree_all _ _ _ _ _ _) ?_
 simp only [Act.put];have t3:=setRow_heap w2 tb _ #[.slice la1 l1 c1,.slice la2 l2 c2] _ _ T2.out;have k3:=K2.out.grown (grown_setRow w2 tb #[.slice la1 l1 c1,.slice la2 l2 c2]) K2.out.size (fun k e=>by cases e; exact HTB.out)
 generalize w2.setRow tb #[.slice la1 l1 c1,.slice la2 l2 c2] = w3 at t3 k3 ⊢;have T3:=hid t3;have K3:=hid k3;clear t3 k3 T1 K1 T2 K2;have t0:=two_cell0 T3.out
 go_upto_region 2 with fail
 refine wp_region_lit ?_;iterate 3 (refine @wQ _ _ _ _ _ _ _ ?_ ?_;kernel_rfl;intro K hK;go_simp;refine hK _ _ ?_;clear hK K)
 refine @wpL_alloc _ _ _ _ _ _ _ _ ?_ 3 rfl _ (alloc_int9 _) ?_;kernel_rfl
 simp only [Act.put,sA,sB,sC];clear t0;have k4:=kA w3 (.cells #[.int .i64 0] 3)
 have n4:=heap_new w3 (.cells #[.int .i64 0] 3)
 have t4:=(k4.block tb (lt_of_block T3.out) (Nat.ne_of_lt (lt_of_block T3.out))).trans T3.out;have HBN:=hid (show tb≠w3.heap.size from Nat.ne_of_lt (lt_of_block T3.out));have HWN:=hid (show w.heap.size≤w3.heap.size from K3.out.size);generalize w3.alloc (.cells #[.int .i64 0] 3) = w4 at k4 n4 t4 ⊢
 obtain⟨nb,hnb⟩:∃ n,n = w3.heap.size:=⟨_,rfl⟩;rw [← hnb] at n4 HBN HWN
 (try rw [← hnb])
 have K4:=hid (K3.out.next1 k4);have N4:=hid n4;have T4:=hid t4;clear hnb k4 n4 t4 T3 K3;refine @wpL_store_part _ _ _ _ _ _ _ ?_ 3 _ _ rfl nb 0 [.int .i64 0] 3 (.int .i64 (l1:Int)) rfl rfl N4.out (Nat.zero_lt_succ _) rfl intInfo9 ?_;kernel_rfl
 simp only [Act.put]
 have n5:(w4.setCell ⟨nb,0,none⟩ (.int .i64 (l1:Int))).heap[nb]? = some (.cells #[.int .i64 (l1:Int)] 3 (0,0)):=by
  have:=cells_set (cs:=[.int .i64 0]) N4.out 0 (.int .i64 (l1:Int))
  simpa using this
 have t5:=(setCell_other w4 nb 0 (.int .i64 (l1:Int)) tb HBN.out).trans T4.out;have K5:=hid (K4.out.set (.inr HWN.out) 0 (.int .i64 (l1:Int)));generalize w4.setCell ⟨nb,0,none⟩ (.int .i64 (l1:Int)) = w5 at n5 t5 K5 ⊢;have N5:=hid n5;have T5:=hid t5;clear n5 t5 N4 T4 K4;have c0:=one_cellT N5.out
 go_upto_region 3 with fail
 refine wp_region_lit ?_;iterate 2 (refine @wQ _ _ _ _ _ _ _ ?_ ?_;kernel_rfl;intro K hK;go_simp;refine hK _ _ ?_;clear hK K)
 refine @wQ _ _ _ _ _ _ _ ?_ ?_;kernel_rfl;intro K hK;go_simp;go_at_call 19
 refine(HND.out _).mono ?_;rintro e wx ⟨rfl,hwx⟩;subst wx;refine hK _ _ ?_;clear hK K;refine @wQ _ _ _ _ _ _ _ ?_ ?_;kernel_rfl;intro K hK;go_simp;refine hK _ _ ?_;clear hK K;clear c0;go_wp2;go_ret;exact⟨rfl,K5.out⟩
theorem resolve_calls8 (lv pv:Value)(L:List Lf)(P:List Pr)(x:Nat)(w:World)(hL:Lvs w lv L)(hP:Pts w pv P)(hr:Tt.right L P = true)(hx:Bo.In 0 L.length x):
  Calls Try.prog 6 #[.agg #[lv,pv],.int .i64 (x:Int)] w fun e w'=>∃ v,e = .returned v∧Ints w' w.heap.size v (Tt.resNode L P x)∧Kept w.heap.size w.heap.size w w':=by
 have hF:=Tt.fine_of hr;have h64:=hF.n64;have HRN:=hid (fun(u:World) (k:Kept w.heap.size w.heap.size w u)=>rightornone8 lv pv L P u (hL.kept k) (hP.kept k) (Nat.le_trans hF.n64 (by decide)) (by have:=hF.n64; have:=hF.par; omega) hF.len hr)
 have HND:=hid (fun u=>isnode8_yes L.length (x:Int) hF.n64 (by obtain⟨h1,h2⟩:=hx; omega) u)
 obtain⟨a,m,p,b,h1,h2,h3,h4,h5⟩:=Bo.seg_of hx hF.n64;have hres:Tt.resNode L P x = Tt.resSeg L P L.length a m:=by unfold Tt.resNode; rw [h3]
 rw [hres];obtain⟨lad,lc,rfl⟩:=hL.shape;obtain⟨pad,pc,rfl⟩:=hP.shape
 have HGC:=hid (fun(w0:World) (B tb lb gb nb:Nat) (hWe:∀ M u,Gs w0 B tb lb gb nb #[.slice lad L.length lc,.slice pad P.length pc] 58 L.length M u→Kept w.heap.size w.heap.size w u) (u:World) (g:Gs w0 B tb lb gb nb #[.slice lad L.length lc,.slice pad P.length pc] 58 L.length [] u)=>
  gather_calls L P hF L.length P.length rfl rfl hx.1 lad pad lc pc w hL hP w0 B tb lb gb nb hWe L.length a m p b (by omega) h1 [] u (by rw [List.length_nil]; omega) g)
 rw [h2] at HGC;obtain⟨ln,hln⟩:∃ ln,ln = L.length:=⟨_,rfl⟩;obtain⟨pn,hpn⟩:∃ pn,pn = P.length:=⟨_,rfl⟩;obtain⟨RS,hRS⟩:∃ R,R = Tt.resSeg L P L.length a m:=⟨_,rfl⟩;rw [← hRS] at HGC ⊢;rw [← hln,← hpn] at HRN HGC ⊢;rw [← hln] at HND;have hmf:∀ (fn:Fn) (first cap:Array Value) (w:World),(Instr.makeFunc fn first cap).run Try.prog w = .ok (.func fn first cap) w:=fun _ _ _ _=>rfl
 clear hL hP hr hx hF h64 h1 h2 h3 h4 h5 hres hln hpn hRS;have k1:=kA w (.cells #[.slice lad ln lc,.slice pad pn pc] 27)
 have t1:=heap_new w (.cells #[.slice lad ln lc,.slice pad pn pc] 27)
 go_enter Try.func6,Try.ntmps6
 go_upto_region 1 with fail
 generalize w.alloc (.cells #[.slice lad ln lc,.slice pad pn pc] 27) = w1 at k1 t1 ⊢
 obtain⟨tb,htb⟩:∃ tb,tb = w.heap.size:=⟨_,rfl⟩;rw [← htb] at t1
 (try rw [← htb])
 have HTB:=hid (show w.heap.size≤tb by omega)
 have K1:=hid k1;have T1:=hid t1;clear k1 t1 htb;refine wp_region_lit ?_;refine @wpList_load_known _ _ _ _ _ _ _ ?_ 27 (.tmp 2) rfl (tb) (0) rfl (.agg #[.slice lad ln lc,.slice pad pn pc]) (run_loadVar_row w1 tb 27 27 _ (0,0) _ T1.out Try.underlying27 rfl treeInfo) ?_;kernel_rfl
 simp only [Act.put,sA,sB,sC];refine @wQ _ _ _ _ _ _ _ ?_ ?_;kernel_rfl;intro K hK;go_simp;go_at_call 18
 refine(HRN.out _ K1.out).mono ?_;rintro e w2 ⟨rfl,k2⟩;have K2:=hid (K1.out.next1 k2);have T2:=hid (rk T1.out k2);clear k2;refine hK _ _ ?_;clear hK K;refine wpList_store_row rfl 27 _ _ rfl (tb) #[.slice lad ln lc,.slice pad pn pc] rfl rfl 27 #[.slice lad ln lc,.slice pad pn pc] T2.out treeInfo rfl (tree_all _ _ _ _ _ _) ?_
 simp only [Act.put];have t3:=setRow_heap w2 tb _ #[.slice lad ln lc,.slice pad pn pc] _ _ T2.out;have k3:=K2.out.grown (grown_setRow w2 tb #[.slice lad ln lc,.slice pad pn pc]) K2.out.size (fun k e=>by cases e; exact HTB.out)
 generalize w2.setRow tb #[.slice lad ln lc,.slice pad pn pc] = w3 at t3 k3 ⊢;have T3:=hid t3;have K3:=hid k3;clear t3 k3 T1 K1 T2 K2;have t0:=two_cell0 T3.out
 go_upto_region 2 with fail
 refine wp_region_lit ?_;iterate 3 (refine @wQ _ _ _ _ _ _ _ ?_ ?_;kernel_rfl;intro K hK;go_simp;refine hK _ _ ?_;clear hK K)
 refine @wpL_alloc _ _ _ _ _ _ _ _ ?_ 3 rfl _ (alloc_int9 _) ?_;kernel_rfl
 simp only [Act.put,sA,sB,sC];clear t0;have k4:=kA w3 (.cells #[.int .i64 0] 3)
 have n4:=heap_new w3 (.cells #[.int .i64 0] 3)
 have t4:=(k4.block tb (lt_of_block T3.out) (Nat.ne_of_lt (lt_of_block T3.out))).trans T3.out;have HBN:=hid (show tb≠w3.heap.size from Nat.ne_of_lt (lt_of_block T3.out));have HWN:=hid (show w.heap.size≤w3.heap.size from K3.out.size);generalize w3.alloc (.cells #[.int .i64 0] 3) = w4 at k4 n4 t4 ⊢
 obtain⟨nb,hnb⟩:∃ n,n = w3.heap.size:=⟨_,rfl⟩;rw [← hnb] at n4 HBN HWN
 (try rw [← hnb])
 have K4:=hid (K3.out.next1 k4);have N4:=hid n4;have T4:=hid t4;clear hnb k4 n4 t4 T3 K3;refine @wpL_store_part _ _ _ _ _ _ _ ?_ 3 _ _ rfl nb 0 [.int .i64 0] 3 (.int .i64 (ln:Int)) rfl rfl N4.out (Nat.zero_lt_succ _) rfl intInfo9 ?_;kernel_rfl
 simp only [Act.put]
 have n5:(w4.setCell ⟨nb,0,none⟩ (.int .i64 (ln:Int))).heap[nb]? = some (.cells #[.int .i64 (ln:Int)] 3 (0,0)):=by
  have:=cells_set (cs:=[.int .i64 0]) N4.out 0 (.int .i64 (ln:Int))
  simpa using this
 have t5:=(setCell_other w4 nb 0 (.int .i64 (ln:Int)) tb HBN.out).trans T4.out;have K5:=hid (K4.out.set (.inr HWN.out) 0 (.int .i64 (ln:Int)));generalize w4.setCell ⟨nb,0,none⟩ (.int .i64 (ln:Int)) = w5 at n5 t5 K5 ⊢;have N5:=hid n5;have T5:=hid t5;clear n5 t5 N4 T4 K4;have c0:=one_cellT N5.out
 go_upto_region 3 with fail
 refine wp_region_lit ?_;iterate 2 (refine @wQ _ _ _ _ _ _ _ ?_ ?_;kernel_rfl;intro K hK;go_simp;refine hK _ _ ?_;clear hK K)
 refine @wQ _ _ _ _ _ _ _ ?_ ?_;kernel_rfl;intro K hK;go_simp;go_at_call 19
 refine(HND.out _).mono ?_;rintro e wx ⟨rfl,hwx⟩;subst wx;refine hK _ _ ?_;clear hK K;refine @wQ _ _ _ _ _ _ _ ?_ ?_;kernel_rfl;intro K hK;go_simp;refine hK _ _ ?_;clear hK K;clear c0
 go_upto_region 5 with fail
 refine wp_region_lit ?_;refine @wpL_alloc _ _ _ _ _ _ _ _ ?_ 29 rfl _ (alloc_ints9 _) ?_;kernel_rfl
 simp only [Act.put,sA,sB,sC];have k6:=kA w5 (.cells #[.slice none 0 0] 29)
 have l6:=heap_new w5 (.cells #[.slice none 0 0] 29)
 have n6:=(k6.block nb (lt_of_block N5.out) (Nat.ne_of_lt (lt_of_block N5.out))).trans N5.out;have t6:=(k6.block tb (lt_of_block T5.out) (Nat.ne_of_lt (lt_of_block T5.out))).trans T5.out;have HL6:=hid (show tb≠w5.heap.size∧nb≠w5.heap.size∧w.heap.size≤w5.heap.size from⟨Nat.ne_of_lt (lt_of_block T5.out),Nat.ne_of_lt (lt_of_block N5.out),K5.out.size⟩);have K6:=hid (K5.out.next1 k6);generalize w5.alloc (.cells #[.slice none 0 0] 29) = w6 at l6 n6 t6 K6 ⊢
 obtain⟨lb,hlb⟩:∃ n,n = w5.heap.size:=⟨_,rfl⟩;rw [← hlb] at l6 HL6
 (try rw [← hlb])
 have L6:=hid l6;have N6:=hid n6;have T6:=hid t6;clear hlb k6 l6 n6 t6 N5 T5 K5
 go_upto_region 6 with fail
 refine wp_region_lit ?_;refine @wpL_alloc _ _ _ _ _ _ _ _ ?_ 58 rfl _ (alloc_func9 _) ?_;kernel_rfl
 simp only [Act.put,sA,sB,sC];have k7:=kA w6 (.cells #[.nilFunc] 58)
 have g7:=heap_new w6 (.cells #[.nilFunc] 58)
 have l7:=(k7.block lb (lt_of_block L6.out) (Nat.ne_of_lt (lt_of_block L6.out))).trans L6.out;have n7:=(k7.block nb (lt_of_block N6.out) (Nat.ne_of_lt (lt_of_block N6.out))).trans N6.out;have t7:=(k7.block tb (lt_of_block T6.out) (Nat.ne_of_lt (lt_of_block T6.out))).trans T6.out;have HG7:=hid (show tb≠w6.heap.size∧nb≠w6.heap.size∧lb≠w6.heap.size∧w.heap.size≤w6.heap.size from⟨Nat.ne_of_lt (lt_of_block T6.out),Nat.ne_of_lt (lt_of_block N6.out),Nat.ne_of_lt (lt_of_block L6.out),K6.out.size⟩);have K7:=hid (K6.out.next1 k7);generalize w6.alloc (.cells #[.nilFunc] 58) = w7 at g7 l7 n7 t7 K7 ⊢
 obtain⟨gb,hgb⟩:∃ n,n = w6.heap.size:=⟨_,rfl⟩;rw [← hgb] at g7 HG7
 (try rw [← hgb])
 have G7:=hid g7;have L7:=hid l7;have N7:=hid n7;have T7:=hid t7;clear hgb k7 g7 l7 n7 t7 L6 N6 T6 K6
 go_upto_region 7 with fail
 refine wp_region_lit ?_;refine @wQ _ _ _ _ _ _ _ ?_ ?_;kernel_rfl;intro K hK;go_simp;refine hK _ _ ?_;clear hK K;refine @wpL_store_part _ _ _ _ _ _ _ ?_ 58 _ _ rfl gb 0 [.nilFunc] 58 (.func (.func 20) #[] #[.pointer (some ⟨tb,0,none⟩),.pointer (some ⟨lb,0,none⟩),.pointer (some ⟨gb,0,none⟩),.pointer (some ⟨nb,0,none⟩)]) rfl rfl G7.out (Nat.zero_lt_succ _) rfl funcInfo9 ?_;kernel_rfl
 simp only [Act.put]
 have g8:(w7.setCell ⟨gb,0,none⟩ (.func (.func 20) #[] #[.pointer (some ⟨tb,0,none⟩),.pointer (some ⟨lb,0,none⟩),.pointer (some ⟨gb,0,none⟩),.pointer (some ⟨nb,0,none⟩)])).heap[gb]? = some (.cells #[.func (.func 20) #[] #[.pointer (some ⟨tb,0,none⟩),.pointer (some ⟨lb,0,none⟩),.pointer (some ⟨gb,0,none⟩),.pointer (some ⟨nb,0,none⟩)]] 58 (0,0)):=by
  have:=cells_set (cs:=[.nilFunc]) G7.out 0 (.func (.func 20) #[] #[.pointer (some ⟨tb,0,none⟩),.pointer (some ⟨lb,0,none⟩),.pointer (some ⟨gb,0,none⟩),.pointer (some ⟨nb,0,none⟩)])
  simpa using this
 have l8:=(setCell_other w7 gb 0 (.func (.func 20) #[] #[.pointer (some ⟨tb,0,none⟩),.pointer (some ⟨lb,0,none⟩),.pointer (some ⟨gb,0,none⟩),.pointer (some ⟨nb,0,none⟩)]) lb HG7.out.2.2.1).trans L7.out
 have n8:=(setCell_other w7 gb 0 (.func (.func 20) #[] #[.pointer (some ⟨tb,0,none⟩),.pointer (some ⟨lb,0,none⟩),.pointer (some ⟨gb,0,none⟩),.pointer (some ⟨nb,0,none⟩)]) nb HG7.out.2.1).trans N7.out
 have t8:=(setCell_other w7 gb 0 (.func (.func 20) #[] #[.pointer (some ⟨tb,0,none⟩),.pointer (some ⟨lb,0,none⟩),.pointer (some ⟨gb,0,none⟩),.pointer (some ⟨nb,0,none⟩)]) tb HG7.out.1).trans T7.out
 have K8:=hid (K7.out.set (.inr HG7.out.2.2.2) 0 (.func (.func 20) #[] #[.pointer (some ⟨tb,0,none⟩),.pointer (some ⟨lb,0,none⟩),.pointer (some ⟨gb,0,none⟩),.pointer (some ⟨nb,0,none⟩)]))
 generalize w7.setCell ⟨gb,0,none⟩ (.func (.func 20) #[] #[.pointer (some ⟨tb,0,none⟩),.pointer (some ⟨lb,0,none⟩),.pointer (some ⟨gb,0,none⟩),.pointer (some ⟨nb,0,none⟩)]) = w8 at g8 l8 n8 t8 K8 ⊢
 clear G7 L7 N7 T7 K7
 have HGS:Hid (Gs w8 w8.heap.size tb lb gb nb #[.slice lad ln lc,.slice pad pn pc] 58 ln [] w8):=hid
  ⟨Kept.refl _ _ _,Nat.le_refl _,t8,g8,n8,⟨_,l8,ints_none _ _⟩,lt_of_block t8,lt_of_block l8,lt_of_block g8,lt_of_block n8,HL6.out.1,Ne.symm HG7.out.2.2.1,HL6.out.2.1⟩
 have HWE:Hid (∀ M u,Gs w8 w8.heap.size tb lb gb nb #[.slice lad ln lc,.slice pad pn pc] 58 ln M u→Kept w.heap.size w.heap.size w u):=hid (fun M u g=>K8.out.trans (g.kp.mono K8.out.size (fun i hi _=>by have:=HL6.out.2.2; omega)))
 have c0:=one_cellT g8;clear g8 l8 n8 t8
 go_upto_region 8 with fail
 refine wp_region_lit ?_;refine @wpList_load_known _ _ _ _ _ _ _ ?_ 58 (.tmp 7) rfl (gb) (0) rfl (.func (.func 20) #[] #[.pointer (some ⟨tb,0,none⟩),.pointer (some ⟨lb,0,none⟩),.pointer (some ⟨gb,0,none⟩),.pointer (some ⟨nb,0,none⟩)]) (load_func8 c0) ?_;kernel_rfl
 simp only [Act.put,sA,sB,sC];refine @wQ _ _ _ _ _ _ _ ?_ ?_;kernel_rfl;intro K hK;go_simp;refine hK _ _ ?_;clear hK K;refine @wQ _ _ _ _ _ _ _ ?_ ?_;kernel_rfl;intro K hK;go_simp;go_at_call 20
 refine(HGC.out _ _ _ _ _ _ HWE.out _ HGS.out).mono ?_;rintro e w9 ⟨rfl,g9⟩;rw [List.nil_append] at g9;have G9:=hid g9;clear g9;refine hK _ _ ?_;clear hK K;clear c0;have hkw:=HWE.out _ _ G9.out;obtain⟨v9,hl9,i9⟩:=G9.out.lst;obtain⟨va,vc,rfl⟩:=(ints_nums i9).shape;have c9:=one_cellT hl9;have I9:=hid (ints_more i9 K8.out.size);have KW:=hid hkw;obtain⟨vn,hvn⟩:∃ n,n = RS.length:=⟨_,rfl⟩;rw [← hvn] at c9 I9;clear hkw hl9 i9 hvn
 go_upto_region 9 with fail
 refine wp_region_lit ?_;refine @wpList_load_known _ _ _ _ _ _ _ ?_ 29 (.tmp 6) rfl (lb) (0) rfl (.slice va vn vc) (load_ints c9) ?_;kernel_rfl
 simp only [Act.put,sA,sB,sC];refine @wQ _ _ _ _ _ _ _ ?_ ?_;kernel_rfl;intro K hK;go_simp;refine hK _ _ ?_;clear hK K;clear c9;go_wp2;go_ret;exact⟨_,rfl,I9.out,KW.out⟩
end Go.Proofs.Ytlpabcnhcbgfjaa
