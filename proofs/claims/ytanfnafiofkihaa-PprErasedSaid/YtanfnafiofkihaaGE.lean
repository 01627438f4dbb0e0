/-
 The landed looking about: all that follows, as a set.
-/
import Derived.Test.YtanfnafiofkihaaGD
import Derived.Deep.LoopGhost
import Derived.Lib.QuietBelow
set_option maxRecDepth 100000
set_option maxHeartbeats 6400000
namespace Go.Proofs.Ytanfnafiofkihaa
open Go.RowKit Go.Lib
open List renaming setIfInBounds_toArray -> sA, set_cons_zero -> sB, set_cons_succ -> sC
open BigFrame renaming wpList_want -> wQ
def Met (w:World)(mb n:Nat)(met:Nat->Nat):Prop:=
 ∃ f,Mp w 3 mb n f/\∀ i:Nat,f (.int .i64 (i:Int)) = some (.int .i64 (met i:Int))\/(f (.int .i64 (i:Int)) = none/\met i = 0)
theorem Met.same {w w':World}{mb n:Nat}{met:Nat->Nat}(h:Met w mb n met)(hb:w'.heap[mb]? = w.heap[mb]?):Met w' mb n met:=by
 obtain⟨f,h1,h2⟩:=h;exact⟨f,h1.same hb,h2⟩
theorem Met.lt {w:World}{mb n:Nat}{met:Nat->Nat}(h:Met w mb n met):mb < w.heap.size:=by
 obtain⟨f,h1,_⟩:=h;exact h1.lt
theorem Met.map {w:World}{mb n:Nat}{met:Nat->Nat}(h:Met w mb n met):∃ es c,w.heap[mb]? = some (.map es c):=by
 obtain⟨f,h1,_⟩:=h;exact h1.map
theorem int_zero (w:World):(zeroValue 3).run Try.prog w = .ok (.int .i64 0) w:=by kernel_rfl
theorem keyOf_num (i:Nat)(hi:i < 1073741824):keyOf Try.prog 3 (.int .i64 (i:Int)) = some (.int .i64 (i:Int)):=Maps.keyOf_int_mk Try.underlying3 (WalkArith.wf_i64 (by omega))
theorem met_look {w:World}{mb n:Nat}{met:Nat->Nat}(h:Met w mb n met)(i:Nat)(hi:i < 1073741824):(Instr.lookup 141 (.map (some mb)) (.int .i64 (i:Int)) false).run Try.prog w = .ok (.int .i64 (met i:Int)) w:=by
 obtain⟨f,h1,h2⟩:=h;rw [h1.look int_keyed3 Try.underlying141 (int_zero w) (keyOf_num i hi)]
 rcases h2 i with h3 | ⟨h3,h4⟩
 ·rw [h3]; rfl
 ·rw [h3,h4]; rfl
theorem met_put {w:World}{mb n:Nat}{met:Nat->Nat}(h:Met w mb n met)(i:Nat)(hi:i < 1073741824)(hn:n < 70368744177664)(q:Nat):
  ∃ w',(Instr.mapUpdate 141 (.map (some mb)) (.int .i64 (i:Int)) (.int .i64 (q:Int))).run Try.prog w = .ok () w'/\Met w' mb (n + 1) (λj=>if j = i then q else met j)/\w.grownBy w' (some mb)/\w'.heap.size = w.heap.size:=by
 obtain⟨f,h1,h2⟩:=h;obtain⟨w',hr,hm,hg,hs⟩:=h1.store int_keyed3 Try.underlying141 (by unfold maxLen; omega) (keyOf_num i hi) (.int .i64 (q:Int))
 refine⟨w',hr,⟨_,hm,λj=>?_⟩,hg,hs⟩
 by_cases he:j = i
 ·subst he
  rw [upd_same];exact .inl (by simp)
 ·have hm2:(if j = i then q else met j) = met j:=if_neg he
  rw [upd_other _ _ (λe=>he (by injection e with _ e2; omega))]
  show _ = some (Value.int .i64 ((if j = i then q else met j:Nat):Int))\/(_/\(if j = i then q else met j) = 0)
  rw [hm2];exact h2 j
theorem needs_some {fs:List (List (List UInt8) × List (List UInt8))}{h:List UInt8}{J:List Nat}(hJ:∀ i,J.count i = needs fs h i){t:Nat}(ht:t < J.length):J[t] < fs.length:=by
 have h1:0 < J.count J[t]:=List.count_pos_iff.2 (List.getElem_mem ht);rw [hJ,needs] at h1
 rcases Nat.lt_or_ge J[t] fs.length with h2 | h2
 ·exact h2
 ·rw [List.getElem?_eq_none h2] at h1
  exact absurd h1 (Nat.lt_irrefl _)
theorem OwnI.looks {w:World}{base:Nat}{v:Value}{l:List Nat}(h:OwnI w base v l):∃ ad g o c,v = .slice ad l.length c/\∀ i (hi:i < l.length),ad = some ⟨g,o,none⟩/\g < w.heap.size/\w.cell? ⟨g,o + i,none⟩ = some (.int .i64 (l[i]:Nat)):=by
 have hlt:=h.lt;have h0:=h
 rcases h.2 with ⟨rfl,hn⟩ | ⟨g,cap,cur,rfl,_⟩
 ·exact⟨none,0,0,0,by rw [hn],λi hi=>by omega⟩
 ·exact⟨some ⟨g,0,none⟩,g,0,cap,rfl,λi hi=>⟨rfl,(hlt g rfl).2,h0.cell i hi⟩⟩
structure Looks (w:World) (bb:Nat) (fs:List (List (List UInt8) × List (List UInt8))) (S:BokS) (fad:Option Addr) (fg fo fc B:Nat):Prop where
 c0:w.cell? ⟨bb,0,none⟩ = some (.slice fad fs.length fc)
 c2:w.cell? ⟨bb,2,none⟩ = some (.map (some S.nm))
 c3:w.cell? ⟨bb,3,none⟩ = some S.frv
 lies:∀ i (hi:i < fs.length),fad = some ⟨fg,fo,none⟩/\∃ a b,w.cell? ⟨fg,fo + i * 2,none⟩ = some a/\w.cell? ⟨fg,fo + i * 2 + 1,none⟩ = some b/\Hs w a fs[i].1/\Hs w b fs[i].2/\∀ ad n c,b = .slice (some ad) n c->fs[i].2≠[]->ad.block < B
theorem Bok.looks {w:World}{base bb b:Nat}{fs:List (List (List UInt8) × List (List UInt8))}{nmf:Lit->Option Value}{S:BokS}(h:Bok w base bb fs b nmf S):∃ fad fg fo fc,S.fv = .slice fad fs.length fc/\Looks w bb fs S fad fg fo fc w.heap.size:=by
 obtain⟨ad,g,c,hv,hat⟩:=h.facts.at;refine⟨ad,g,0,c,hv,?_,cells_get (j:=2) h.cells rfl,cells_get (j:=3) h.cells rfl,λi hi=>?_⟩
 ·rw [<- hv]
  exact cells_get (j:=0) h.cells rfl
 ·obtain⟨h1,h2,h3,a,b',h4,h5,h6,h7⟩:=hat i hi
  exact⟨h1,a,b',h4,h5,h6.hs,h7.hs,λad n c e _=>by subst e; exact(h7.low _ rfl).2⟩
theorem Looks.kept {w w':World}{bb:Nat}{fs:List (List (List UInt8) × List (List UInt8))}{S:BokS}{fad:Option Addr}{fg fo fc B:Nat}(h:Looks w bb fs S fad fg fo fc B)(k:Kept w.heap.size w.heap.size w w'):Looks w' bb fs S fad fg fo fc B:=by
 have hc:∀ {a:Addr} {v:Value},w.cell? a = some v->w'.cell? a = some v:=fun {a v} hh=>(k.cell (World.block_lt_of_cell? w a hh) (Nat.ne_of_lt (World.block_lt_of_cell? w a hh))).trans hh
 refine⟨hc h.c0,hc h.c2,hc h.c3,λi hi=>?_⟩
 obtain⟨h1,a,b',h4,h5,h6,h7,h8⟩:=h.lies i hi;exact⟨h1,a,b',hc h4,hc h5,h6.kept k,h7.kept k,h8⟩
theorem Put.kept {w w':World}{B kb lb km:Nat}{K L:List (List UInt8)}{lv:Value}(h:Put w B kb lb km K L lv)(k:Kept w.heap.size w.heap.size w w'):Put w' B kb lb km K L lv:=by
 have hk:∀ i,i < w.heap.size->w'.heap[i]? = w.heap[i]?:=λi hi=>k.block i hi (Nat.ne_of_lt hi)
 refine⟨(hk kb (lt_of_block h.kbox)).trans h.kbox,(hk lb (lt_of_block h.lbox)).trans h.lbox,h.known.same (hk _ h.known.lt),h.left.stay λi cs fr hh=>(hk i (lt_of_block hh)).trans hh,h.bk,h.bl,h.bm⟩
theorem Put.other {w w':World}{B kb lb km mb:Nat}{K L:List (List UInt8)}{lv:Value}(h:Put w B kb lb km K L lv)(hg:w.grownBy w' (some mb))(hm:∃ es c,w.heap[mb]? = some (.map es c))(hne:mb≠km):Put w' B kb lb km K L lv:=by
 obtain⟨es,c,hm⟩:=hm;refine⟨(hg.block kb (lt_of_block h.kbox) (λe=>?_)).trans h.kbox,(hg.block lb (lt_of_block h.lbox) (λe=>?_)).trans h.lbox,h.known.same (hg.block km h.known.lt (λe=>by cases e; exact hne rfl)),h.left.grown hg ?_,h.bk,h.bl,h.bm⟩
 ·cases e
  have:=h.kbox;rw [hm] at this
  cases this
 ·cases e
  have:=h.lbox;rw [hm] at this
  cases this
 ·cases ho:lv.ownBlock with
  | none=>exact .inl rfl
  | some k=>exact .inr (λe=>by cases e; exact h.left.notMap mb ho es c hm)
theorem grownBy_refl (w:World)(row:Option Nat):w.grownBy w row:=⟨rfl,rfl,rfl,Nat.le_refl _,λ_ _ _=>rfl⟩
theorem slice_zero (w:World):(zeroValue 58).run Try.prog w = .ok (.slice none 0 0) w:=by kernel_rfl
theorem all_calls (base bb b:Nat)(fs:List (List (List UInt8) × List (List UInt8)))(nmf:Lit->Option Value)(S:BokS)(fr:List (List UInt8))(u:Value)(w:World)(hB:Bok w base bb fs b nmf S)(hR:Hs w u fr)(hT:fr.length + (Bk.outs fs).length < 1000000)(hb:b < 1000000)(hfs:fs.length < 1000000)(hsz:∀ f∈fs,f.1.length < 1000000/\f.2.length < 1000000):
  Calls Try.prog 48 #[.pointer (some ⟨bb,0,none⟩),u] w λe w'=>∃ km K,e = .returned (.map (some km))/\Known w' km K/\K.Nodup/\(∀ x,x∈K↔Bk.Cl fs fr x)/\w.heap.size<=km/\Kept w.heap.size w.heap.size w w':=by
 have hmm:=@run_makeMap Try.prog;have hmf:∀ (fn:Fn) (first cap:Array Value) (w:World),(Instr.makeFunc fn first cap).run Try.prog w = .ok (.func fn first cap) w:=λ_ _ _ _=>rfl
 go_enter Try.func48,Try.ntmps48
 go_upto_region 4 with fail
 have hsize:(((w.alloc (.map #[] 0)).alloc (.cells #[.map (some w.heap.size)] 95)).alloc (.cells #[.slice none 0 0] 23)).heap.size = w.heap.size + 3:=by simp
 have hP1:Put (((w.alloc (.map #[] 0)).alloc (.cells #[.map (some w.heap.size)] 95)).alloc (.cells #[.slice none 0 0] 23)) w.heap.size (w.heap.size + 1) (w.heap.size + 1 + 1) w.heap.size [] [] (.slice none 0 0):=by
  refine⟨?_,?_,?_,⟨(λ_ h=>nomatch h),World.ownsRow_nil _ _ _ _⟩,by omega,by omega,Nat.le_refl _⟩
  ·have:=heap_new (w.alloc (.map #[] 0)) (.cells #[.map (some w.heap.size)] 95)
   rw [show(w.alloc (.map #[] 0)).heap.size = w.heap.size + 1 by simp] at this
   rw [Below.heap_alloc _ _ _ (by simp)]
   exact this
  ·have:=heap_new ((w.alloc (.map #[] 0)).alloc (.cells #[.map (some w.heap.size)] 95)) (.cells #[.slice none 0 0] 23)
   rw [show((w.alloc (.map #[] 0)).alloc (.cells #[.map (some w.heap.size)] 95)).heap.size = w.heap.size + 1 + 1 by simp] at this
   exact this
  ·have hk:Known (w.alloc (.map #[] 0)) w.heap.size []:=⟨λ_=>none,Mp.made w _,λl=>⟨(λh=>nomatch h),λ_=>rfl⟩⟩
   exact hk.same (by rw [Below.heap_alloc _ _ _ (by simp; omega),Below.heap_alloc _ _ _ (by simp)])
 have hF1:PutFr w.heap.size w.heap.size w (((w.alloc (.map #[] 0)).alloc (.cells #[.map (some w.heap.size)] 95)).alloc (.cells #[.slice none 0 0] 23)):=(((PutFr.refl _ _ _).alloc (Nat.le_refl _) _).alloc (by simp) _).alloc (by simp; omega) _
 generalize ((w.alloc (.map #[] 0)).alloc (.cells #[.map (some w.heap.size)] 95)).alloc (.cells #[.slice none 0 0] 23) = w1 at hsize hP1 hF1 |-
 obtain⟨r32,rad,rg,ro,rc,rfl,rcell⟩:=id hR
 have hput:=putter_calls w.heap.size (w.heap.size + 1) (w.heap.size + 1 + 1) w.heap.size [] [] fr (.slice none 0 0) (.slice rad fr.length rc) w1 (by
  refine⟨r32,rad,rg,ro,rc,rfl,λi hi=>?_⟩
  obtain⟨h1,h2,h3⟩:=rcell i hi
  exact⟨h1,by omega,rangeAt_kept hF1.kept h3 h2 (Nat.ne_of_lt h2)⟩) hP1 (λad n c e hn=>by
   have hl:0 < fr.length:=List.length_pos_iff.2 hn;obtain⟨h1,h2,_⟩:=rcell 0 hl;injection e with e1
   rw [h1] at e1
   cases e1
   exact h2) (by omega) (by simp; omega) (Nat.le_refl _)
 obtain⟨fad,fg,fo,fc,hfv,hlk⟩:=hB.looks;obtain⟨qad,qg,qo,qc,hfrv,hqat⟩:=(hB.row .fr).looks;have hfree:=hB.free;have hneed:=hB.needed;have hfew:=hB.few;have hrow:=λh=>hB.row (.ne h)
 have hneedm:=hB.need;have hfrv2:S.frv = .slice qad (S.L .fr).length qc:=hfrv;obtain⟨F,hF⟩:∃ F,F = S.L .fr:=⟨_,rfl⟩;rw [<- hF] at hqat hfree hfrv2;have hF1000:F.length < 1000000:=by have:=hfew .fr; rw [hF]; omega
 have HQAT:=hid hqat;have HFREE:=hid hfree;have HNEED:=hid hneed;have HFEW:=hid hfew;have HROW:=hid hrow;have HNM:=hid hneedm;have HFRV:=hid hfrv2;have HB:=hid hB;clear hqat hfree hneed hfew hrow hneedm hfrv hfrv2 hF;have HLK:=hid hlk;have HPUT:=hid hput;have HF1:=hid hF1;have HSZ:=hid hsz;have HT:=hid hT;have HS1:=hid hsize;have HR32:=hid r32;obtain⟨B,hBe⟩:∃ B,B = w.heap.size:=⟨_,rfl⟩;rw [<- hBe] at HPUT HF1 HS1 |-;have HBE:=hid hBe;clear hB hlk hput hF1 hsz hT hsize r32 rcell hR hP1 hfv hBe hmm hmf
 go_wp2_with fail
 refine HPUT.out.mono ?_;rintro e w2 ⟨rfl,N,lv2,hP2,hF2,hn1,hn2,hn3,hn4⟩;simp only [List.nil_append] at hP2 hn3;have hk2:Kept w.heap.size w.heap.size w w2:=by rw [<- HBE.out]; exact HF1.out.kept.trans hF2.kept
 have hl2:=HLK.out.kept hk2;have d3:=hl2.c3;rw [HFRV.out] at d3;have hmm:=@run_makeMap Try.prog;have HP2:=hid hP2;have HF2:=hid hF2;have HN2:Hid (N.Nodup/\(∀ x∈N,Bk.Cl fs fr x)/\∀ x∈fr,x∈N):=hid ⟨hn2,λx hx=>.base x (hn1 x hx).1,hn3⟩
 clear hP2 hF2 hn1 hn2 hn3 hn4 hk2 hl2 HPUT
 go_wp2_with fail
 go_loopw [27] (λs27 w9=>∃ (k:Nat) (K:List (List UInt8)) (lv:Value),k<=F.length/\s27 = .int .i64 (k:Int)/\Hid (Put w9 B (B + 1) (B + 1 + 1) B K K lv)/\Hid (PutFr B B w1 w9)/\Hid (K.Nodup/\(∀ x∈K,Bk.Cl fs fr x)/\∀ x∈fr,x∈K)/\Hid (∀ j (hj:j < F.length),j < k->∀ f,fs[F[j]]? = some f->∀ o∈f.2,o∈K)) (λs27 _=>F.length - (RowKit.intOf s27).toNat)
 case atStart=>exact⟨0,N,lv2,by omega,rfl,HP2,HF2,HN2,hid (λ_ _ h=>absurd h (Nat.not_lt_zero _))⟩
 case round=>
  obtain⟨k,K,lv,hk,rfl,hP,hF,hK,hO⟩:=hrel;have hkw:Kept w.heap.size w.heap.size w wr:=by rw [<- HBE.out]; exact HF1.out.kept.trans hF.out.kept
  have hKT:K.length<=fr.length + (Bk.outs fs).length:=by
   have:=Bk.nodup_le K (fr ++ Bk.outs fs) hK.out.1 (λx hx=>Bk.cl_mem (hK.out.2.1 x hx))
   rwa [List.length_append] at this
  have hl:=HLK.out.kept hkw;have d0:=hl.c0;have HKT:=hid hKT;have HL:=hid hl;have HKW:=hid hkw;clear hKT hl hkw
  by_cases hlt:k < F.length
  ·obtain⟨rfl,hqg,hqc⟩:=HQAT.out k hlt
   obtain⟨f,hf,hf1⟩:=(HFREE.out F[k]).1 (List.getElem_mem hlt)
   have hqf:F[k] < fs.length:=by
    rcases Nat.lt_or_ge F[k] fs.length with h | h
    ·exact h
    ·rw [List.getElem?_eq_none h] at hf; cases hf
   have hkn:(k:Int) < (F.length:Int):=by omega
   have hk0:¬ (k:Int) < 0:=by omega
   have hqcr:=(HKW.out.cell (p:=⟨qg,qo + k,none⟩) hqg (Nat.ne_of_lt hqg)).trans hqc
   have hmore:∀ K':List (List UInt8),(∀ o∈f.2,o∈K')->(∀ x∈K,x∈K')->∀ j (hj:j < F.length),j < k + 1->∀ f,fs[F[j]]? = some f->∀ o∈f.2,o∈K':=λK' h1 h2 j hj hjk f' hf' o ho=>by
    rcases Nat.lt_or_ge j k with h | h
    ·exact h2 o (hO.out j hj h f' hf' o ho)
    ·obtain rfl:j = k:=by omega
     rw [hf] at hf'
     cases hf'
     exact h1 o ho
   obtain⟨hfad,va,vb,hva,hvb,hsa,hsb,hlow⟩:=HL.out.lies F[k] hqf;have hff:fs[F[k]] = f:=by rw [List.getElem?_eq_getElem hqf] at hf; exact Option.some.inj hf
   rw [hff] at hsb hlow;generalize F[k] = q at hqf hqcr hva hvb hf;subst hfad;have hqn:(q:Int) < (fs.length:Int):=by omega
   have hq0:¬ (q:Int) < 0:=by omega
   have hfm:f∈fs:=List.mem_of_getElem? hf;obtain⟨zp1,bad,bg,bo,bc,rfl,zp2⟩:=id hsb;clear zp1 zp2
   have hcall:=putter_calls B (B + 1) (B + 1 + 1) B K K f.2 lv (.slice bad f.2.length bc) wr hsb hP.out (λad n c e hn=>by
    rw [HBE.out]
    exact hlow ad n c e hn) (by have:=hF.out.kept.size; have:=HS1.out; omega) (by have:=HKT.out; have:=HT.out; have:=(HSZ.out f hfm).2; omega) (Nat.le_refl _)
   have HCALL:=hid hcall;have HMORE:=hid hmore;have HFM:=hid hfm;have HF1N:=hid hf1;clear hcall hmore hfm hf1 hva hsa hsb hlow hqc hf hff hqg
   go_wp2_with fail
   refine HCALL.out.mono ?_;rintro e w5 ⟨rfl,N5,lv5,hP5,hF5,n1,n2,n3,n4⟩;have HP5:=hid hP5;have HF5:=hid (hF.out.trans hF5)
   have HK5:Hid ((K ++ N5).Nodup/\(∀ x∈K ++ N5,Bk.Cl fs fr x)/\∀ x∈fr,x∈K ++ N5):=hid (by
    obtain⟨k1,k2,k3⟩:=hK.out;refine⟨List.nodup_append.2 ⟨k1,n2,λa ha b' hb' e=>(n1 b' hb').2 (e ▸ ha)⟩,λx hx=>?_,λx hx=>List.mem_append_left _ (k3 x hx)⟩
    rcases List.mem_append.1 hx with h | h
    ·exact k2 x h
    ·exact .fact f x HFM.out (λy hy=>by rw [HF1N.out] at hy; cases hy) (n1 x h).1)
   have HO5:=hid (HMORE.out (K ++ N5) n3 (λx hx=>List.mem_append_left _ hx))
   clear hP5 hF5 n1 n2 n3 n4;go_wp2;exact⟨⟨k + 1,K ++ N5,lv5,by omega,by rw [Int.natCast_add]; rfl,HP5,HF5,HK5,HO5⟩,by simp only [RowKit.intOf]; omega⟩
  ·obtain rfl:k = F.length:=by omega
   have hrun:Bk.Run fs fr K K (λ_=>0):=by
    obtain⟨k1,k2,k3⟩:=hK.out;refine⟨k1,k2,λx h=>h,k1,k3,λi f hf=>?_,λi f hf hx o ho=>?_⟩
    ·refine(List.countP_eq_zero.2 λx hx=>?_).symm
     rw [Bk.popped_iff];exact λh=>h.2 h.1
    ·have he:f.1 = []:=List.eq_nil_iff_forall_not_mem.2 λx hx2=>(hx x hx2).2 (hx x hx2).1
     obtain⟨j,hj,hje⟩:=List.getElem_of_mem ((HFREE.out i).2 ⟨f,hf,he⟩);exact hO.out j hj hj f (by rw [hje]; exact hf) o ho
   have hbr:B<=wr.heap.size:=by have:=hF.out.kept.size; have:=HS1.out; omega
   have hme:Met (wr.alloc (.map #[] 0)) wr.heap.size 0 (λ_=>0):=⟨λ_=>none,Mp.made wr _,λi=>.inr ⟨rfl,rfl⟩⟩
   have hP3:=hP.out.alloc (.map #[] 0);have hK3:Kept B B w1 (wr.alloc (.map #[] 0)):=hF.out.kept.alloc hbr _;have hmb:B < wr.heap.size:=by have:=hP.out.bl; have:=lt_of_block hP.out.lbox; omega
   obtain⟨mb,hmbe⟩:∃ mb,mb = wr.heap.size:=⟨_,rfl⟩;rw [<- hmbe] at hme hmb;have HRUN:=hid hrun;have HME:=hid hme;have HP3:=hid hP3;have HK3:=hid hK3;have HMB:=hid hmb;have HN0:Hid (0<=(K.length - K.length) * b):=hid (Nat.zero_le _);have HMBE:=hid hmbe;obtain⟨T,hTe⟩:∃ T,T = fr.length + (Bk.outs fs).length:=⟨_,rfl⟩;have HTE:=hid hTe;clear hrun hbr hme hP3 hK3 hmb hmbe hTe hP hF hK hO d0
   go_wp2_with fail
   generalize wr.alloc (.map #[] 0) = w3 at HME HP3 HK3 |-;rw [<- HMBE.out]
   go_loopg [44] (2 * (T - K.length) + K.length) (λgk s44 w9=>∃ (K Lf:List (List UInt8)) (lv:Value) (met:Nat->Nat) (n:Nat),2 * (T - K.length) + Lf.length<=gk/\Hid (Put w9 B (B + 1) (B + 1 + 1) B K Lf lv)/\Hid (Met w9 mb n met)/\Hid (Bk.Run fs fr K Lf met)/\Hid (Kept B B w1 w9)/\Hid (n<=(K.length - Lf.length) * b))
   case atStart=>exact⟨K,K,lv,λ_=>0,0,Nat.le_refl _,HP3,HME,HRUN,HK3,HN0⟩
   case round=>
    obtain⟨K,Lf,lv,met,n,hgk,hP,hM,hR,hK,hN⟩:=hrel;have e6:=cells_get (j:=0) hP.out.kbox rfl
    rcases List.eq_nil_or_concat Lf with rfl | ⟨L',h,rfl⟩
    ·obtain⟨zp1,lad,lg,lo,lc,rfl,zp2⟩:=hP.out.left.hs
     clear zp1 zp2;have e5:=cells_get (j:=0) hP.out.lbox rfl;simp only [List.length_nil] at e5;go_wp2;go_ret;refine⟨B,K,rfl,hP.out.known,hR.out.nd,hR.out.done,by rw [HBE.out]; exact Nat.le_refl _,?_⟩
     rw [<- HBE.out];exact HF1.out.kept.trans hK.out
    ·rw [List.concat_eq_append] at hP hR hN hgk
     have hh32:h.length = 32:=hP.out.left.1 h (by simp)
     obtain⟨lg,lo,lc,cur,hlo,hlv,hlc⟩:∃ lg lo lc cur,lo = 0/\lv = .slice (some ⟨lg,lo,none⟩) (L'.length + 1) lc/\(L'.length + 1<=lc/\lc<=maxLen/\wr.heap[lg]? = some (.cells cur 26 (0,0))):=by
      rcases hP.out.left.2.2 with ⟨_,h0⟩ | ⟨g,cap,cur,hv,_,hh,h1,h2,_⟩
      ·simp at h0
      ·rw [List.length_append,List.length_singleton] at hv h1
       exact⟨g,0,cap,cur,rfl,hv,h1,h2,hh⟩
     have hinit:OwnH wr B (.slice (some ⟨lg,lo,none⟩) L'.length lc) L':=by
      have:=hP.out.left;rw [hlv,hlo] at this;have:=this.init (by simp)
      rw [List.dropLast_concat,Nat.add_sub_cancel] at this;rw [hlo];exact this
     have hrl:wr.rangeAt lg (lo + L'.length * 32) (bcells h):=by
      have hat2:=hP.out.left;rw [hlv] at hat2;obtain⟨_,ad2,g2,o2,c2,hv2,hat3⟩:=hat2.hs;injection hv2 with e1 _ _
      obtain⟨h1,_,h3⟩:=hat3 L'.length (by simp)
      rw [<- e1] at h1
      cases h1
      simpa using h3
     have e5:=cells_get (j:=0) hP.out.lbox rfl
     have hT2:K.length<=T:=by
      have:=Bk.nodup_le K (fr ++ Bk.outs fs) hR.out.nd (λx hx=>Bk.cl_mem (hR.out.cl x hx))
      rw [List.length_append] at this;rw [HTE.out];exact this
     have hbr:B<=wr.heap.size:=by have:=hK.out.size; have:=HS1.out; omega
     have hcap:(L'.length:Int) + 1<=(lc:Int):=by omega
     have hcap2:(lc:Int)<=9223372036854775807:=by have:=hlc.2.1; simp only [maxLen] at this; omega
     have hL1:L'.length < 1000000:=by
      have h1:=Bk.nodup_le (L' ++ [h]) K hR.out.ndl hR.out.sub;rw [List.length_append] at h1;have:=HT.out;have:=HTE.out
      omega
     obtain⟨bl,hbl⟩:∃ bl,bl = bcells h:=⟨_,rfl⟩;have hbl32:bl.length = 32:=by rw [hbl,bcells_length,hh32]
     have hst:=store_new (P:=Try.prog) wr 26 zeros32 bl.toArray (by rw [zeros32_size,List.size_toArray,hbl32]) (by rw [hbl]; exact bcells_all h)
     have hP1:=hP.out.alloc (.cells bl.toArray 26)
     have hinit1:=hinit.alloc (.cells bl.toArray 26)
     obtain⟨hlb1,hP2⟩:=hP1.stored (grownBy_refl _ _) hinit1;have hK1:Kept B B w1 ((wr.alloc (.cells bl.toArray 26)).setCell ⟨B + 1 + 1,0,none⟩ (.slice (some ⟨lg,lo,none⟩) L'.length lc)):=(hK.out.alloc hbr _).set (.inr (by omega)) _ _
     have hM1:Met ((wr.alloc (.cells bl.toArray 26)).setCell ⟨B + 1 + 1,0,none⟩ (.slice (some ⟨lg,lo,none⟩) L'.length lc)) mb n met:=by
      obtain⟨es,c,hm⟩:=hM.out.map
      have hne:mb≠B + 1 + 1:=λe=>by
       rw [e,hP.out.lbox] at hm
       cases hm
      exact hM.out.same ((setCell_other _ _ _ _ _ hne).trans (Below.heap_alloc wr (.cells bl.toArray 26) mb hM.out.lt))
     have hA1:((wr.alloc (.cells bl.toArray 26)).setCell ⟨B + 1 + 1,0,none⟩ (.slice (some ⟨lg,lo,none⟩) L'.length lc)).heap[wr.heap.size]? = some (.cells bl.toArray 26 (0,0)):=by
      rw [setCell_other _ _ _ _ _ (λe=>by have:=lt_of_block hP.out.lbox; omega)]
      exact heap_new _ _
     have s1:((wr.alloc (.cells bl.toArray 26)).setCell ⟨B + 1 + 1,0,none⟩ (.slice (some ⟨lg,lo,none⟩) L'.length lc)).heap.size = wr.heap.size + 1:=by simp [World.setCell]
     have e51:(wr.alloc (.cells bl.toArray 26)).cell? ⟨B + 1 + 1,0,none⟩ = some (.slice (some ⟨lg,lo,none⟩) (L'.length + 1) lc):=by rw [<- hlv]; exact cells_get (j:=0) hP1.lbox rfl
     have f51:=cells_free (cs:=[lv]) hP1.lbox 0;rw [hlv] at e5;have hxl:(Try.prog.info? 26).map (·.size) = some bl.length:=by rw [hbl32]; kernel_rfl
     rw [<- hbl] at hrl;have HST:=hid hst;have HP2:=hid hP2;have HK1:=hid hK1;have HM1:=hid hM1;have HA1:=hid hA1;have HS2:=hid s1;have HRL:=hid hrl;have HXL:=hid hxl;have HT2:=hid hT2;have HBL:=hid hbl;clear hst hP1 hinit1 hlb1 hP2 hK1 hM1 hA1 s1 hrl hxl hT2 hbl hlv hlc hinit hlo
     go_wp2_with (with_reducible refine wpList_load_mid rfl 26 _ rfl lg (lo + L'.length * 32) rfl bl _ HRL.out Try.underlying26 rfl HXL.out ?_)
     rw [zeros32_eq,HST.out]
     go_upto_region 16 with fail
     generalize ((wr.alloc (.cells bl.toArray 26)).setCell ⟨B + 1 + 1,0,none⟩ (.slice (some ⟨lg,lo,none⟩) L'.length lc)) = w4 at HP2 HK1 HM1 HA1 HS2 |-
     obtain⟨hb0,hhb0⟩:∃ hb0,hb0 = wr.heap.size:=⟨_,rfl⟩;rw [<- hhb0] at HA1 HS2 |-;have hkw4:Kept w.heap.size w.heap.size w w4:=by rw [<- HBE.out]; exact HF1.out.kept.trans HK1.out
     have hl4:=HLK.out.kept hkw4;obtain⟨jad,jg,jo,jc,hjv,hjat⟩:=(HROW.out h).looks;have hJ:=HNEED.out h;have hJb:=HFEW.out (.ne h);have hnm:Mp w4 26 S.nm b S.fn:=HNM.out.same (hkw4.block _ HNM.out.lt (Nat.ne_of_lt HNM.out.lt))
     have hlook:∀ d os,(Instr.lookup 81 (.map (some S.nm)) (.agg bl.toArray) false).run Try.prog (Go.Sort.grow (redrawn w4 d) os) = .ok (.slice jad (S.L (.ne h)).length jc) (Go.Sort.grow (redrawn w4 d) os):=λd os=>by
      have:=(hnm.same ((below_regrown w4 d os).block _ hnm.lt)).look hash_keyed Try.underlying81 (slice_zero _) (keyOf_hash h hh32)
      rw [<- HBL.out] at this;rw [this];show Result.ok (S.val (.ne h)) _ = _;rw [hjv]
     obtain⟨J,hJe⟩:∃ J,J = S.L (.ne h):=⟨_,rfl⟩;rw [<- hJe] at hjat hJ hJb hlook;have hJ1000:J.length < 1000000:=by omega
     have r2:∀ d os,(Go.Sort.grow (redrawn w4 d) os).cell? ⟨bb,2,none⟩ = some (.map (some S.nm)):=λd os=>cell_regrown hl4.c2 d os
     have hrow:=λw'=>range_regrown (w:=w4) HA1.out w'
     have hia:(Try.prog.info? 26).map (·.size) = some bl.toArray.size:=by rw [List.size_toArray,hbl32]; kernel_rfl
     have HJAT:=hid hjat;have HJ:=hid hJ;have HJB:=hid hJb;have HROW4:=hid hrow;have HIA:=hid hia;clear hjat hJ hJb hrow hia hnm hl4 hkw4 hjv hJe e5 e51 f51 e6 hhb0;refine wp_region_quiet_below (by kernel_rfl) (by kernel_rfl) ?_
     iterate 8
      first
       | (refine wpQuiet_load_row 26 _ rfl hb0 rfl bl.toArray _ HROW4.out Try.underlying26 rfl HIA.out rfl ?_; go_simp)
       | (quiet_step (fail))
     refine wpQuiet_nil ?_;intro p;have k5:=regrown_kept (w:=w4) ⟨p,rfl⟩;have hP5:=HP2.out.kept k5;have hM5:=HM1.out.same (k5.block mb HM1.out.lt (Nat.ne_of_lt HM1.out.lt));have hK5:Kept B B w1 (Go.Sort.grow (redrawn w4 p.d) p.os):=HK1.out.trans (k5.mono (by have:=HK1.out.size; have:=HS1.out; omega) (λk hk _=>by have:=HK1.out.size; have:=HS1.out; omega))
     have HP5:=hid hP5;have HM5:=hid hM5;have HK5:=hid hK5;generalize Go.Sort.grow (redrawn w4 p.d) p.os = w5 at HP5 HM5 HK5 |-;clear r2 hlook k5 hP5 hM5 hK5
     go_wp2_with fail
     go_loopw [64] (λs64 w9=>∃ (t:Nat) (N:List (List UInt8)) (lv:Value) (met:Nat->Nat) (n:Nat),t<=J.length/\s64 = .int .i64 (t:Int)/\Hid (Put w9 B (B + 1) (B + 1 + 1) B (K ++ N) (L' ++ N) lv)/\Hid (Met w9 mb n met)/\Hid (Bk.Mid fs fr K (L' ++ [h]) N h J t met)/\Hid (Kept B B w1 w9)/\Hid (n<=(K.length - (L' ++ [h]).length) * b + t)) (λs64 _=>J.length - (RowKit.intOf s64).toNat)
     case atStart=>exact⟨0,[],_,met,n,by omega,rfl,by simpa using HP5,HM5,hid (hR.out.mid h J),HK5,hid (by have:=hN.out; omega)⟩
     case round=>
      obtain⟨t,N,lv,met2,n2,ht,rfl,hP,hM,hMid,hK,hN2⟩:=hrel
      by_cases hlt:t < J.length
      ·obtain⟨rfl,hjg,hjc⟩:=HJAT.out t hlt
       have hqf:=needs_some HJ.out hlt;have hff:fs[J[t]]? = some fs[J[t]]:=List.getElem?_eq_getElem hqf;have hkn:(t:Int) < (J.length:Int):=by omega
       have hk0:¬ (t:Int) < 0:=by omega
       have hkw:Kept w.heap.size w.heap.size w wr:=by rw [<- HBE.out]; exact HF1.out.kept.trans hK.out
       have hjcr:=(hkw.cell (p:=⟨jg,jo + t,none⟩) hjg (Nat.ne_of_lt hjg)).trans hjc;have hall:=λhe=>hMid.out.all hlt (hR.out.sub h (by simp)) (by simp) HJ.out hff he
       have hstep:=hMid.out.step hlt;have hmt:=hMid.out.met J[t] _ hff;have hcl:=Bk.cnt_le (λx=>inList K x && !inList (L' ++ [h]) x) fs[J[t]]
       have hct:(J.take t).count J[t]<=J.length:=Nat.le_trans List.count_le_length (by rw [List.length_take]; omega)
       have hfm:fs[J[t]]∈fs:=List.getElem_mem hqf;have hm1000:met2 J[t] < 10000000:=by have:=(HSZ.out _ hfm).1; omega
       have hn6:n2 < 70368744177664:=by
        have h1:=hN2.out;have h2:K.length<=1000000:=by have:=HT2.out; have:=HTE.out; have:=HT.out; omega
        have h3:(K.length - (L' ++ [h]).length) * b<=1000000 * 1000000:=Nat.mul_le_mul (by omega) (by omega)
        omega
       obtain⟨w6,hr6,hM6,hg6,hs6⟩:=met_put hM.out J[t] (by omega) hn6 (met2 J[t] + 1)
       have hlkm:=met_look hM.out J[t] (by omega)
       have hmbB:mb≠B:=by have:=HMB.out; omega
       have hP6:=hP.out.other hg6 hM.out.map hmbB;have hK6:Kept B B w1 w6:=hK.out.grown hg6 (by have:=hK.out.size; have:=HS1.out; omega) (λk h=>by cases h; exact Nat.le_of_lt HMB.out)
       have hkw6:Kept w.heap.size w.heap.size w w6:=by rw [<- HBE.out]; exact HF1.out.kept.trans hK6
       have hl6:=HLK.out.kept hkw6;obtain⟨hfad,va,vb,hva,hvb,hsa,hsb,hlow⟩:=hl6.lies J[t] hqf;have hc06:=hl6.c0;have hfs0:=λ(w':World) (k:Kept w.heap.size w.heap.size w w')=>(HLK.out.kept k).c0
       have hfs1:∀ (w':World),Kept w6.heap.size w6.heap.size w6 w'->w'.cell? ⟨fg,fo + J[t] * 2 + 1,none⟩ = some vb:=λw' k=>(k.cell (World.block_lt_of_cell? w6 _ hvb) (Nat.ne_of_lt (World.block_lt_of_cell? w6 _ hvb))).trans hvb
       have hlook6:∀ d os,(Instr.lookup 141 (.map (some mb)) (.int .i64 ((J[t]:Nat):Int)) false).run Try.prog (Go.Sort.grow (redrawn w6 d) os) = .ok (.int .i64 ((met2 J[t]:Int) + 1)) (Go.Sort.grow (redrawn w6 d) os):=λd os=>by
        have:=met_look (hM6.same ((below_regrown w6 d os).block _ hM6.lt)) J[t] (by omega)
        rw [this];simp
       have hput6:=λ(w':World) (k:Kept w6.heap.size w6.heap.size w6 w') (lv:Value) (hb:B<=w'.heap.size) (hp:Put w' B (B + 1) (B + 1 + 1) B (K ++ N) (L' ++ N) lv)=>putter_calls B (B + 1) (B + 1 + 1) B (K ++ N) (L' ++ N) fs[J[t]].2 lv vb w' (hsb.kept k) hp (λad n c e hn=>by rw [HBE.out]; exact hlow ad n c e hn) hb
       rw [show((met2 J[t] + 1:Nat):Int) = (met2 J[t]:Int) + 1 from rfl] at hr6;have hnd:=hMid.out.nd
       have hstepT:∀ N5:List (List UInt8),(∀ x∈N5,x∈fs[J[t]].2/\x∉K ++ N)->N5.Nodup->(∀ x∈fs[J[t]].2,x∈(K ++ N) ++ N5)->met2 J[t] + 1 = fs[J[t]].1.length->Bk.Mid fs fr K (L' ++ [h]) (N ++ N5) h J (t + 1) (λj=>if j = J[t] then met2 J[t] + 1 else met2 j):=λN5 n1 n2 n3 he=>
        hstep (λj=>if j = J[t] then met2 J[t] + 1 else met2 j) (if_pos rfl) (λi hi=>if_neg hi) N5 (by
         rw [<- List.append_assoc];exact List.nodup_append.2 ⟨hnd,n2,λa ha b' hb' e=>(n1 b' hb').2 (e ▸ ha)⟩) (λx hx=>.fact _ x hfm (hall he) (n1 x hx).1) (λf' hf' _ o ho=>by
         rw [hff] at hf'
         cases hf'
         rw [<- List.append_assoc]
         exact n3 o ho)
       have hstepF:met2 J[t] + 1≠fs[J[t]].1.length->Bk.Mid fs fr K (L' ++ [h]) N h J (t + 1) (λj=>if j = J[t] then met2 J[t] + 1 else met2 j):=λhe=>by
        have:=hstep (λj=>if j = J[t] then met2 J[t] + 1 else met2 j) (if_pos rfl) (λi hi=>if_neg hi) [] (by simpa using hnd) (λ_ h=>nomatch h) (λf' hf' he'=>by
         rw [hff] at hf'
         cases hf'
         exact absurd he' he)
        simpa using this
       have hfl:=(HSZ.out _ hfm).2
       have hKN:(K ++ N).length<=T:=by
        have:=Bk.nodup_le (K ++ N) (fr ++ Bk.outs fs) hnd (λx hx=>Bk.cl_mem (hMid.out.cl x hx))
        rw [HTE.out,<- List.length_append];exact this
       have hLN:(L' ++ N).length<=(K ++ N).length:=by
        have:=Bk.nodup_le (L' ++ [h]) K hR.out.ndl hR.out.sub;rw [List.length_append,List.length_singleton] at this;rw [List.length_append,List.length_append]
        omega
       have hn7:n2 + 1<=(K.length - (L' ++ [h]).length) * b + (t + 1):=by have:=hN2.out; omega
       clear hall hstep hmt hcl hct hnd hn6 hfm hff hkw hmbB hkw6 hl6 hlow hg6 hs6 hjc;generalize fs[J[t]] = f at *;generalize J[t] = q at *;generalize hmq:met2 q = m at *;subst hfad;obtain⟨zp1,iad,ig,io,ic,rfl,zp2⟩:=id hsa;clear zp1 zp2;obtain⟨zp1,bad,bg,bo,bc,rfl,zp2⟩:=id hsb;clear zp1 zp2;have hqn:(q:Int) < (fs.length:Int):=by omega
       have hq0:¬ (q:Int) < 0:=by omega
       have hmi:(m:Int) < 10000000:=by omega
       have r0:∀ d os,(Go.Sort.grow (redrawn w6 d) os).cell? ⟨bb,0,none⟩ = some (.slice (some ⟨fg,fo,none⟩) fs.length fc):=λd os=>cell_regrown hc06 d os
       have r1:∀ d os,(Go.Sort.grow (redrawn w6 d) os).cell? ⟨fg,fo + q * 2,none⟩ = some (.slice iad f.1.length ic):=λd os=>cell_regrown hva d os
       have HP6:=hid hP6;have HM6:=hid hM6;have HK6:=hid hK6;have HFS0:=hid hfs0;have HFS1:=hid hfs1;have HPUT6:=hid hput6;have HT6:=hid hstepT;have HF6:=hid hstepF;have HFL:=hid hfl;have HKN:=hid hKN;have HLN:=hid hLN;have HN7:=hid hn7;clear hP6 hM6 hK6 hfs0 hfs1 hput6 hstepT hstepF hfl hKN hLN hn7 hsa hsb hva hvb hc06 hmq hm1000 hqf hjg
       by_cases he:m + 1 = f.1.length
       ·have hde:((m:Int) + 1 == (f.1.length:Int)) = true:=by rw [beq_iff_eq]; omega
        go_upto_region 20 with fail
        refine wp_region_quiet_below (by kernel_rfl) (by kernel_rfl) ?_
        iterate 13 (quiet_step (fail))
        refine wpQuiet_nil ?_;rintro _ ⟨p,rfl⟩;have k7:=regrown_kept (w:=w6) ⟨p,rfl⟩;have hP7:=HP6.out.kept k7;have hM7:=HM6.out.same (k7.block mb HM6.out.lt (Nat.ne_of_lt HM6.out.lt));have hs6:B<=w6.heap.size:=by have:=HK6.out.size; have:=HS1.out; omega
        have hK7:Kept B B w1 (Go.Sort.grow (redrawn w6 p.d) p.os):=HK6.out.trans (k7.mono hs6 (λk hk _=>by omega))
        have hkw7:Kept w.heap.size w.heap.size w (Go.Sort.grow (redrawn w6 p.d) p.os):=by rw [<- HBE.out]; exact HF1.out.kept.trans hK7
        have d0:=HFS0.out _ hkw7;have d1:=HFS1.out _ k7;have hcall:=HPUT6.out _ k7 lv (Nat.le_trans hs6 k7.size) hP7 (by have:=HKN.out; have:=HTE.out; have:=HT.out; have:=HFL.out; omega) HLN.out
        have hmbB:mb≠B:=by have:=HMB.out; omega
        have HCALL:=hid hcall;have HP7:=hid hP7;have HM7:=hid hM7;have HK7:=hid hK7;have HMB7:=hid hmbB;have HT7:=hid (λN5 n1 n2 n3=>HT6.out N5 n1 n2 n3 he)
        generalize Go.Sort.grow (redrawn w6 p.d) p.os = w7 at HCALL HP7 HM7 HK7 d0 d1 |-;clear k7 hP7 hM7 hK7 hkw7 hcall hs6 r0 r1 hlook6 hmbB he
        go_wp2_with fail
        refine HCALL.out.mono ?_;rintro e w8 ⟨rfl,N5,lv8,hP8,hF8,y1,y2,y3,y4⟩;rw [List.append_assoc,List.append_assoc] at hP8
        have HM8:Hid (Met w8 mb (n2 + 1) (λj=>if j = q then m + 1 else met2 j)):=hid (by
         obtain⟨es,c,hm⟩:=HM7.out.map
         exact HM7.out.same ((hF8.maps mb es c HMB7.out hm).trans hm.symm))
        have HP8:=hid hP8;have HK8:=hid (HK7.out.trans hF8.kept);have HM9:=hid (HT7.out N5 y1 y2 y3);clear hP8 hF8 y1 y2 y3 y4;go_wp2;exact⟨⟨t + 1,N ++ N5,lv8,_,_,by omega,by rw [Int.natCast_add]; rfl,HP8,HM8,HM9,HK8,HN7⟩,by simp only [RowKit.intOf]; omega⟩
       ·have hde:((m:Int) + 1 == (f.1.length:Int)) = false:=by rw [beq_eq_false_iff_ne]; omega
        go_upto_region 20 with fail
        refine wp_region_quiet_below (by kernel_rfl) (by kernel_rfl) ?_
        iterate 13 (quiet_step (fail))
        refine wpQuiet_nil ?_;rintro _ ⟨p,rfl⟩;have k7:=regrown_kept (w:=w6) ⟨p,rfl⟩;have hP7:=HP6.out.kept k7;have hM7:=HM6.out.same (k7.block mb HM6.out.lt (Nat.ne_of_lt HM6.out.lt));have hs6:B<=w6.heap.size:=by have:=HK6.out.size; have:=HS1.out; omega
        have hK7:Kept B B w1 (Go.Sort.grow (redrawn w6 p.d) p.os):=HK6.out.trans (k7.mono hs6 (λk hk _=>by omega))
        have HP7:=hid hP7;have HM7:=hid hM7;have HK7:=hid hK7;have HM9:=hid (HF6.out he);generalize Go.Sort.grow (redrawn w6 p.d) p.os = w7 at HP7 HM7 HK7 |-;clear k7 hP7 hM7 hK7 hs6 r0 r1 hlook6 he;go_wp2;exact⟨⟨t + 1,N,lv,_,_,by omega,by rw [Int.natCast_add]; rfl,HP7,HM7,HM9,HK7,HN7⟩,by simp only [RowKit.intOf]; omega⟩
      ·obtain rfl:t = J.length:=by omega
       have hrun:=hMid.out.run hR.out HJ.out
       have hT3:(K ++ N).length<=T:=by
        have:=Bk.nodup_le (K ++ N) (fr ++ Bk.outs fs) hrun.nd (λx hx=>Bk.cl_mem (hrun.cl x hx))
        rw [HTE.out,<- List.length_append];exact this
       have hLK:=Bk.nodup_le (L' ++ [h]) K hR.out.ndl hR.out.sub
       have hn9:n2<=((K ++ N).length - (L' ++ N).length) * b:=by
        have h1:=hN2.out;have h2:=HJB.out;rw [List.length_append,List.length_singleton] at h1 hLK;rw [List.length_append,List.length_append,show K.length + N.length - (L'.length + N.length) = (K.length - (L'.length + 1)) + 1 by omega,Nat.succ_mul]
        omega
       have hmeas:2 * (T - (K ++ N).length) + (L' ++ N).length < gk:=by
        rw [List.length_append] at hT3;rw [List.length_append,List.length_singleton] at hgk;rw [List.length_append,List.length_append]
        omega
       have hd:decide ((J.length:Int) < (J.length:Int)) = false:=decide_eq_false (by omega)
       have HRUN2:=hid hrun;have HN9:=hid hn9;have HME9:=hid hmeas;clear hrun hT3 hLK hn9 hmeas;go_wp2
       go_roundg (2 * (T - (K ++ N).length) + (L' ++ N).length)
       case measure=>exact HME9.out
       case rel=>exact⟨K ++ N,L' ++ N,lv,met2,n2,Nat.le_refl _,hP,hM,HRUN2,hK,HN9⟩
end Go.Proofs.Ytanfnafiofkihaa
