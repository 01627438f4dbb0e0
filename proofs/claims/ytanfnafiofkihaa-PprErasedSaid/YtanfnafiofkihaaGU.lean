/-
 PprBelowRef; PprRefRows: several texts in one.
-/
import Derived.Test.YtanfnafiofkihaaGT
import Derived.Test.YtanfnafiofkihaaGS
import Derived.Test.YtanfnafiofkihaaGR
set_option maxRecDepth 100000
set_option maxHeartbeats 3200000
namespace Go.Proofs.Ytanfnafiofkihaa
open Go.RowKit Go.Lib
open List renaming setIfInBounds_toArray -> sA, set_cons_zero -> sB, set_cons_succ -> sC
open BigFrame renaming wpList_want -> wQ
theorem refRow_taken {w:World}{b:Nat}{t:TypeId}{l:List UInt8}(hl:l.length = 32){bits:Nat}{T:Value}(h:w.heap[b]? = some (.cells (refRow l bits T) t (0,0))):w.cell? ⟨b,33,none⟩ = some T:=by
 rw [cell_of_row w b 33 _ _ _ h,refRow];simp [bcells_length,hl]
def Gones (w:World)(T:Value)(L:List Nat):Prop:=Nums w T (L.map Int.ofNat)
theorem Gones.kept {w w':World}{T:Value}{L:List Nat}{b:Nat}(h:Gones w T L)(k:Kept w.heap.size b w w')(hb:w.heap.size<=b):Gones w' T L:=by
 obtain⟨ad,c,g,o,e,hc⟩:=h;refine⟨ad,c,g,o,e,λi hi=>?_⟩
 obtain⟨h1,h2,h3⟩:=hc i hi;exact⟨h1,Nat.lt_of_lt_of_le h2 k.size,(k.cell (p:=⟨g,o + i,none⟩) h2 (by show g≠b; omega)).trans h3⟩
theorem whole_calls (l:List UInt8)(hl:l.length = 32)(lev k:Nat)(hb:lev + k<=32)(T:Value)(L:List Nat)(hL32:∀ t∈L,t < 4294967296)(hLn:L.length<=1000)(pl:Nat)(w:World)(hT:Gones w T L):
  Calls Try.prog 55 #[.agg (refRow l (lev + k) T),.int .i64 (lev:Int),.int .i64 (pl:Int)] w λe w'=>e = .returned (.bool (decide (∀ t∈L,t / 2 ^ k≠pl)))/\Kept w.heap.size w.heap.size w w':=by
 have hcell:=λ(w2:World) (b:Nat) h=>refRow_bits (w:=w2) (b:=b) (t:=60) hl (bits:=lev + k) (T:=T) h
 have htk:=λ(w2:World) (b:Nat) h=>refRow_taken (w:=w2) (b:=b) (t:=60) hl (bits:=lev + k) (T:=T) h
 generalize refRow l (lev + k) T = RD at hcell htk |-;have HP:=hid (λw=>power_calls k (by omega) w)
 have hk0:Kept w.heap.size w.heap.size w (w.alloc (.cells RD 60)):=(Kept.refl _ _ _).alloc (Nat.le_refl _) _
 have hT1:=hT.kept hk0 (Nat.le_refl _);have hc0:=hcell _ _ (heap_new w (.cells RD 60))
 have hc1:=htk _ _ (heap_new w (.cells RD 60))
 have K:=hid hk0;obtain⟨N,hN⟩:∃ N:Int,N = ((2 ^ k:Nat):Int):=⟨_,rfl⟩;have hN0:¬ N = 0:=by rw [hN]; have:=Nat.two_pow_pos k; generalize 2 ^ k = q at this |-; omega
 have hN1:0<=N:=by rw [hN]; exact Int.natCast_nonneg _
 rw [<- hN] at HP
 have HQ:=hid (λ(t:Nat) (ht:t < 4294967296)=>show IntKind.i64.wrap ((t:Int) / N) = ((t / 2 ^ k:Nat):Int) by
  rw [hN,show(t:Int) / ((2 ^ k:Nat):Int) = ((t / 2 ^ k:Nat):Int) from rfl,IntKind.wrap_i64];have:=Nat.div_le_self t (2 ^ k);generalize t / 2 ^ k = q at this |-
  omega)
 have HQ2:=hid (λ(t:Nat) (ht:t < 4294967296)=>show wrap64 ((t:Int) / N) = ((t / 2 ^ k:Nat):Int) by
  rw [hN,show(t:Int) / ((2 ^ k:Nat):Int) = ((t / 2 ^ k:Nat):Int) from rfl];have:=Nat.div_le_self t (2 ^ k);generalize t / 2 ^ k = q at this |-;unfold wrap64
  omega)
 obtain⟨ad,c,g,o,rfl,hc⟩:=hT1;rw [List.length_map] at hc1;obtain⟨ln,hln⟩:∃ ln,ln = L.length:=⟨_,rfl⟩;rw [<- hln] at hc1;have HC:=hid (λi (hi:i < L.length)=>hc i (by rw [List.length_map]; exact hi))
 have HLN:=hid hln;have H32:=hid hL32;have hln9:(ln:Int)<=1000:=by omega
 have hkk:(k:Int)<=32:=by omega
 have hll:(lev:Int)<=32:=by omega
 clear hk0 hcell htk hc hT hN hln hL32 hLn hb hl
 go_enter Try.func55,Try.ntmps55
 go_upto_region 1 with fail
 generalize w.alloc (.cells RD 60) = w1 at K hc0 hc1 HC |-
 have hsub:(lev:Int) + (k:Int) - (lev:Int) = (k:Int):=by omega
 go_upto_region 2 with (go_at_call 54; (try rw [hsub]); refine(HP.out _).mono ?_; rintro e w2 ⟨rfl,hw2⟩; subst w2)
 clear hsub hc0
 go_wp2_with fail
 obtain⟨P,hP⟩:∃ P:Nat->Prop,∀ i,P i↔∀ j (hj:j < L.length),j < i->L[j] / 2 ^ k≠pl:=⟨_,λ_=>Iff.rfl⟩
 have HPI:=hid hP;clear hP
 go_loopw [8] (λs8 wr=>∃ i:Nat,s8 = .int .i64 (i:Int)/\Hid (i<=ln)/\Hid (P i)/\wr = w1) (λs8 _=>ln - (RowKit.intOf s8).toNat)
 case atStart=>exact⟨0,rfl,hid (Nat.zero_le _),hid ((HPI.out 0).2 (λj _ h=>absurd h (Nat.not_lt_zero _))),rfl⟩
 case round=>
  obtain⟨i,rfl,hi,HALL,hw⟩:=hrel;subst wr
  by_cases hlt:i < ln
  ·have hiL:i < L.length:=by rw [<- HLN.out]; exact hlt
   obtain⟨had,hg,hx⟩:=HC.out i hiL;subst had;rw [List.getElem_map] at hx;have hlti:(i:Int) < (ln:Int):=by omega
   have hi0:¬ (i:Int) < 0:=by omega
   obtain⟨t,ht⟩:∃ t,t = L[i]:=⟨_,rfl⟩;rw [<- ht] at hx;have ht4:t < 4294967296:=by rw [ht]; exact H32.out _ (List.getElem_mem hiL)
   have hq:=HQ.out t ht4;have hq2:=HQ2.out t ht4
   replace hx:w1.cell? ⟨g,o + i,none⟩ = some (.int .i64 (t:Int)):=hx
   have HT:=hid ht;clear ht;have HLT:=hid hlt;have HIL:=hid hiL;have htt:(t:Int) < 4294967296:=by omega
   by_cases heq:t / 2 ^ k = pl
   ·rw [heq] at hq hq2
    have HEQ:=hid heq;clear hlt heq hi hg ht4;go_wp2;go_ret;have hd:decide (∀ t∈L,t / 2 ^ k≠pl) = false:=decide_eq_false (λh=>h _ (List.getElem_mem HIL.out) (by rw [<- HT.out]; exact HEQ.out))
    exact⟨by rw [hd]; rfl,K.out⟩
   ·have hb:(IntKind.i64.wrap ((t:Int) / N) == (pl:Int)) = false:=by
     rw [hq,beq_eq_false_iff_ne]
     omega
    have HEQ:=hid heq;clear hlt heq hi hg ht4 hq hq2
    go_upto_region 5 with fail
    refine wp_region_lit ?_;refine @wQ _ _ _ _ _ _ _ ?_ ?_;kernel_rfl;intro K0 hK0;go_simp;refine hK0 _ _ ?_;clear hK0 K0;refine @wQ _ _ _ _ _ _ _ ?_ ?_;kernel_rfl;intro K0 hK0;go_simp;refine hK0 _ _ ?_;clear hK0 K0;refine @wQ _ _ _ _ _ _ _ ?_ ?_;kernel_rfl;intro K0 hK0;go_simp;refine hK0 _ _ ?_;clear hK0 K0;refine @wQ _ _ _ _ _ _ _ ?_ ?_;kernel_rfl;intro K0 hK0;go_simp;refine hK0 _ _ ?_;clear hK0 K0;refine @wQ _ _ _ _ _ _ _ ?_ ?_;kernel_rfl;intro K0 hK0;go_simp;refine hK0 _ _ ?_;clear hK0 K0;refine @wQ _ _ _ _ _ _ _ ?_ ?_;kernel_rfl;intro K0 hK0;go_simp;refine hK0 _ _ ?_;clear hK0 K0;refine @wQ _ _ _ _ _ _ _ ?_ ?_;kernel_rfl;intro K0 hK0;go_simp;refine hK0 _ _ ?_;clear hK0 K0;refine @wQ _ _ _ _ _ _ _ ?_ ?_;kernel_rfl;intro K0 hK0;go_simp;refine hK0 _ _ ?_;clear hK0 K0;refine @wQ _ _ _ _ _ _ _ ?_ ?_;kernel_rfl;intro K0 hK0;go_simp;refine hK0 _ _ ?_;clear hK0 K0;refine wpList_nil ?_;clear hb
    go_upto_region 4 with fail
    refine wp_region_lit ?_;go_wp2
    go_roundw
    case rel=>exact⟨i + 1,by simp,hid HLT.out,hid ((HPI.out _).2 λj hj hji=>by
     rcases Nat.lt_or_ge j i with h | h
     ·exact(HPI.out _).1 HALL.out j hj h
     ·obtain rfl:j = i:=by omega
      rw [<- HT.out]
      exact HEQ.out),trivial⟩
    case measure=>have:=HLT.out; simp [RowKit.intOf]; omega
  ·have hnl:¬ (i:Int) < (ln:Int):=by omega
   have HI:=hid (show i = ln by have:=hi.out; omega)
   clear hlt hi;go_wp2;go_ret
   have hd:decide (∀ t∈L,t / 2 ^ k≠pl) = true:=decide_eq_true (λt ht=>by
    obtain⟨j,hj,rfl⟩:=List.mem_iff_getElem.1 ht
    exact(HPI.out _).1 HALL.out j hj (by rw [HI.out,HLN.out]; exact hj))
   exact⟨by rw [hd]; rfl,K.out⟩
theorem rseedFullAll:(Try.prog.info? 71).map (λi=>(i.zero.map (·.cells.size),i.size,i.bytes)) = some (some 34,34,48):=by kernel_rfl
theorem rseed_full:∃ i z,Try.prog.info? 71 = some i/\i.zero = some z/\z.cells.size = 34/\i.size = 34/\i.bytes = 48:=by
 have h:=rseedFullAll
 cases hq:Try.prog.info? 71 with
 | none=>rw [hq] at h; cases h
 | some i=>
  rw [hq] at h;simp only [Option.map_some,Option.some.injEq,Prod.mk.injEq] at h
  cases hz:i.zero with
  | none=>rw [hz] at h; cases h.1
  | some z=>
   rw [hz] at h;simp only [Option.map_some,Option.some.injEq] at h;exact⟨i,z,rfl,hz,h.1,h.2.1,h.2.2⟩
def OwnR (w:World)(base:Nat)(v:Value)(L:List Sd):Prop:=(∀ s∈L,s.self.length = 32)/\w.ownsRow base 71 34 v L.length (L.flatMap cellsF)
theorem OwnR.nil (w:World)(base:Nat):OwnR w base (.slice none 0 0) []:=⟨(λ_ h=>nomatch h),World.ownsRow_nil w base 71 34⟩
theorem OwnR.alloc {w:World}{base:Nat}{v:Value}{L:List Sd}(h:OwnR w base v L)(o:Obj):OwnR (w.alloc o) base v L:=⟨h.1,h.2.alloc o⟩
theorem OwnR.kept {w w':World}{base b:Nat}{v:Value}{L:List Sd}(h:OwnR w base v L)(k:Kept w.heap.size b w w')(hb:w.heap.size<=b):OwnR w' base v L:=
 ⟨h.1,h.2.kept (row:=none) ⟨k.os,k.tape,k.output,k.size,λi hi _=>k.block i hi (by omega)⟩ (by cases hv:v.ownBlock <;> simp)⟩
theorem OwnR.ss {w:World}{base:Nat}{v:Value}{L:List Sd}(h:OwnR w base v L):Ss w v L:=by
 obtain⟨h32,ho⟩:=h;have hlt:=ho.lt;have h0:=ho
 rcases ho.2 with ⟨rfl,hn⟩ | ⟨g,cap,cur,rfl,hb,_,hnc,_⟩
 ·obtain rfl:=List.length_eq_zero_iff.1 hn
  exact⟨none,0,0,0,rfl,λ_ h=>absurd h (Nat.not_lt_zero _),Nat.le_refl _⟩
 ·refine⟨some ⟨g,0,none⟩,g,0,cap,rfl,λi hi=>⟨rfl,(hlt g rfl).2,λj u hu=>?_⟩,hnc⟩
  rw [<- cellsF_eq (h32 _ (List.getElem_mem hi))] at hu
  have hj:j < 34:=by
   rcases Nat.lt_or_ge j 34 with h1 | h1
   ·exact h1
   ·rw [List.getElem?_eq_none (by rw [cellsF_length]; exact h1)] at hu; cases hu
  have h2:=h0.cells (g:=g) rfl (i * 34 + j) u (by rw [rowF_at L i hi j hj]; exact hu)
  rw [Addr.add_lit,Nat.zero_add] at h2;rw [Nat.zero_add];exact h2
theorem append_rseeds (w:World)(base:Nat)(v:Value)(L:List Sd)(hown:OwnR w base v L)(hbase:base<=w.heap.size)(b o c:Nat)(X:List Sd)(hx:∀ x∈X,x.self.length = 32)(hb:∀ i (hi:i < X.length),w.rangeAt b (o + i * 34) (Pp.cells X[i]))(hl:L.length + X.length < 1073741824):
  ∃ v' w',(Builtin.append_ #[68,68] 68 #[v,.slice (some ⟨b,o,none⟩) X.length c]).run Try.prog w = .ok v' w'/\OwnR w' base v' (L ++ X)/\w.grownBy w' v.ownBlock:=by
 obtain⟨i,z,hi,hz,hzs,hs34,hby⟩:=rseed_full;obtain⟨h32,ho⟩:=hown
 obtain⟨v',w',h1,h2,h3,_⟩:=run_append_own (P:=Try.prog) w base 68 68 71 i z 34 48 Try.underlying68 hi hz hs34 hby hzs (by decide) v L.length (L.flatMap cellsF) ho ⟨b,o,none⟩ X.length c (X.flatMap cellsF)
  (by rw [rowF_length]) (λj u hu=>by
   rw [Addr.add_lit]
   have hj:j < (X.flatMap cellsF).length:=by
    rcases Nat.lt_or_ge j (X.flatMap cellsF).length with h | h
    ·exact h
    ·rw [List.getElem?_eq_none h] at hu; cases hu
   rw [rowF_length] at hj;have hq:j / 34 < X.length:=by omega
   have hr:j % 34 < 34:=Nat.mod_lt _ (by decide)
   have h2:=hb (j / 34) hq (j % 34) u (by
    rw [<- cellsF_eq (hx _ (List.getElem_mem hq)),<- rowF_at X (j / 34) hq (j % 34) hr,show j / 34 * 34 + j % 34 = j by omega]
    exact hu)
   rw [show o + j / 34 * 34 + j % 34 = o + j by omega] at h2
   exact h2)
  (λv hv=>by
   obtain⟨s,_,hs⟩:=List.mem_flatMap.1 hv
   exact cellsF_one s v hs) (by unfold maxLen; omega) (by omega) hbase
 refine⟨v',w',h1,⟨λy hy=>?_,?_⟩,h3⟩
 ·rcases List.mem_append.1 hy with h | h
  ·exact h32 y h
  ·exact hx y h
 ·rw [List.length_append,List.flatMap_append]
  exact h2
theorem rapp_none (w:World)(ad:Option Addr)(n m:Nat)(hnm:n<=m)(q:Addr)(c:Nat):(Builtin.append_ #[68,68] 68 #[.slice ad n m,.slice (some q) 0 c]).run Try.prog w = .ok (.slice ad n m) w:=by
 obtain⟨i,z,hi,hz,hzs,hs34,hby⟩:=rseed_full;have ht:=Try.underlying68
 have hf:=run_firstCells_some (P:=Try.prog) w i.size 0 q 0 c [] (by simp) (by simp)
 cases ad <;> simp [Builtin.append_,run_underlying ht,sizeOf,typeInfo,hi,Builtin.lenOf,hnm,hf,storeCells]
theorem rapp_nil (w:World)(ad:Option Addr)(n m:Nat)(hnm:n<=m)(c:Nat):(Builtin.append_ #[68,68] 68 #[.slice ad n m,.slice none 0 c]).run Try.prog w = .ok (.slice ad n m) w:=by
 obtain⟨i,z,hi,hz,hzs,hs34,hby⟩:=rseed_full;have ht:=Try.underlying68
 have hf:=run_firstCells_none (P:=Try.prog) w i.size 0 0 c
 cases ad <;> simp [Builtin.append_,run_underlying ht,sizeOf,typeInfo,hi,Builtin.lenOf,hnm,hf,storeCells]
theorem append_rrows (w:World)(base:Nat)(v u:Value)(L M:List Sd)(hv:OwnR w base v L)(hu:OwnR w base u M)(hbase:base<=w.heap.size)(hl:L.length + M.length < 1073741824):
  ∃ v' w',(Builtin.append_ #[68,68] 68 #[v,u]).run Try.prog w = .ok v' w'/\OwnR w' base v' (L ++ M)/\w.grownBy w' v.ownBlock:=by
 have hss:=hu.ss
 rcases hu.2.2 with ⟨rfl,hn⟩ | ⟨g,cap,cur,rfl,_⟩
 ·obtain rfl:=List.length_eq_zero_iff.1 hn
  have hshape:∃ ad n m,v = .slice ad n m/\n<=m:=by
   rcases hv.2.2 with ⟨rfl,_⟩ | ⟨g,cap,cur,rfl,_,_,h,_⟩
   ·exact⟨none,0,0,rfl,Nat.le_refl _⟩
   ·exact⟨_,_,_,rfl,h⟩
  obtain⟨ad,n,m,rfl,hnm⟩:=hshape;exact⟨_,w,rapp_nil w ad n m hnm 0,by simpa using hv,⟨rfl,rfl,rfl,Nat.le_refl _,λ_ _ _=>rfl⟩⟩
 ·obtain⟨ad,g',o,c,e,h1,_⟩:=hss
  cases e
  rcases Nat.eq_zero_or_pos M.length with h0 | h0
  ·obtain rfl:=List.length_eq_zero_iff.1 h0
   have hshape:∃ ad n m,v = .slice ad n m/\n<=m:=by
    rcases hv.2.2 with ⟨rfl,_⟩ | ⟨g,cap,cur,rfl,_,_,h,_⟩
    ·exact⟨none,0,0,rfl,Nat.le_refl _⟩
    ·exact⟨_,_,_,rfl,h⟩
   obtain⟨ad,n,m,rfl,hnm⟩:=hshape;exact⟨_,w,rapp_none w ad n m hnm _ _,by simpa using hv,⟨rfl,rfl,rfl,Nat.le_refl _,λ_ _ _=>rfl⟩⟩
  ·obtain⟨e2,_,_⟩:=h1 0 h0
   cases e2
   exact append_rseeds w base v L hv hbase g 0 cap M hu.1 (λi hi=>(h1 i hi).2.2) hl
theorem OwnR.mono {w:World}{base base':Nat}{v:Value}{L:List Sd}(h:OwnR w base v L)(hb:base'<=base):OwnR w base' v L:=⟨h.1,h.2.1,h.2.2.imp id (λ⟨g,cap,cur,h1,h2,r⟩=>⟨g,cap,cur,h1,Nat.le_trans hb h2,r⟩)⟩
theorem OwnR.one {w:World}{base:Nat}(s:Sd)(hs:s.self.length = 32)(hb:base<=w.heap.size):OwnR (w.alloc (.cells (Pp.cells s).toArray 71)) base (.slice (some ⟨w.heap.size,0,none⟩) 1 1) [s]:=by
 refine⟨λy hy=>by rw [List.mem_singleton.1 hy]; exact hs,?_⟩
 have hsz:(Pp.cells s).toArray.size = 1 * 34:=by simp [Pp.cells,bcells_length,hs]
 have h:=World.ownsRow_lit (base:=base) (e:=71) (size:=34) w (Pp.cells s).toArray 1 hb (by unfold maxLen; omega) hsz
 simpa [cellsF_eq hs] using h
end Go.Proofs.Ytanfnafiofkihaa
