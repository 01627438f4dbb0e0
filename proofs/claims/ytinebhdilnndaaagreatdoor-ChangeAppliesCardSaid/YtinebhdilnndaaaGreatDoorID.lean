/-
 ChgStore; ChgSign; ChgCheck; ChgPack; ChgAwake: several texts in one.
-/
import Derived.Test.YtinebhdilnndaaaGreatDoorIC
import Derived.Test.YtinebhdilnndaaaGreatDoorChgRefRight
import Derived.Test.YtinebhdilnndaaaGreatDoorIB
import Derived.Test.YtinebhdilnndaaaGreatDoorGL
import Derived.Test.YtinebhdilnndaaaGreatDoorGA
set_option maxRecDepth 100000
set_option maxHeartbeats 6400000
namespace Go.Proofs.YtinebhdilnndaaaGreatDoor
open Go.RowKit Go.Lib
open List renaming setIfInBounds_toArray -> sA, set_cons_zero -> sB, set_cons_succ -> sC
open BigFrame renaming wpList_want -> wQ
namespace Cm
def signed (p:Cg)(v:List UInt8):Cg:={ p with sign:=Pm.sign v (text p) }
def checks (p:Cg)(v:List UInt8):Bool:=right p && p.sign == Pm.sign v (text p)
theorem signed_ok {p:Cg}(h:p.Ok)(v:List UInt8):(signed p v).Ok:=⟨h.1,h.2.1,Pm.sign_length _ _⟩
theorem right_signed (p:Cg)(v:List UInt8):right (signed p v) = right p:=rfl
theorem text_signed (p:Cg)(v:List UInt8):text (signed p v) = text p:=rfl
theorem checks_signed {p:Cg}(h:right p = true)(v:List UInt8):checks (signed p v) v = true:=by
 unfold checks;rw [right_signed,text_signed,h,Bool.true_and];exact beq_self_eq_true _
theorem text_le {p:Cg}(h:p.Ok):(text p).length<=104:=by
 have:=Wm.enc_length_le p.depth.toNat;have:=Wm.enc_length_le p.author.toNat;have:=Wm.enc_length_le p.seq.toNat;have:=Wm.enc_length_le p.kind.toNat;have:=Wm.enc_length_le p.name.toNat;simp only [text,List.length_append,h.1,h.2.1]
 omega
end Cm
theorem str_back (l:List UInt8):(str l).data.toList = l:=by simp []
theorem Tab.onto {w x:World}(h:Tab w)(k:Kept w.heap.size w.heap.size w x):Tab x:=h.kept k h.lt h.lt
theorem kept_setCells {w:World}(b:Nat)(hb:w.heap.size<=b):∀ (vs:List Value) (o:Nat) (x:World),Kept w.heap.size w.heap.size w x->Kept w.heap.size w.heap.size w (x.setCells b o vs)
 | [],_,_,h=>h
 | v :: r,o,_,h=>kept_setCells b hb r (o + 1) _ (h.set (.inr hb) o v)
theorem heap_setCells10 {b i:Nat}(hne:i≠b):∀ (vs:List Value) (o:Nat) (x:World),(x.setCells b o vs).heap[i]? = x.heap[i]?
 | [],_,_=>rfl
 | _ :: r,o,_=>(heap_setCells10 hne r (o + 1) _).trans (Below.heap_setCell _ _ _ _ hne)
theorem there_of_row {w:World}{b:Nat}{cs:Array Value}{t:TypeId}(h:w.heap[b]? = some (.cells cs t (0,0))){o n:Nat}(hn:o + n<=cs.size):w.there b o n:=λj hj=>by
 refine⟨?_,by simp [World.frozen?,h]⟩
 rw [cell_of_row w b (o + j) _ _ _ h,Array.getElem?_eq_getElem (by omega)]
 rfl
theorem range_append {w:World}{b o:Nat}{A B:List Value}(hA:w.rangeAt b o A)(hB:w.rangeAt b (o + A.length) B):w.rangeAt b o (A ++ B):=λj v hj=>by
 by_cases h:j < A.length
 ·rw [List.getElem?_append_left h] at hj
  exact hA j v hj
 ·rw [List.getElem?_append_right (by omega)] at hj
  have:=hB (j - A.length) v hj
  rwa [show o + A.length + (j - A.length) = o + j by omega] at this
theorem stored_sign {w:World}{b:Nat}{p:Cg}{t:TypeId}(hp:p.Ok)(h:w.heap[b]? = some (.cells p.cells.toArray t (0,0)))(s:List UInt8)(hs:s.length = 32):(w.setCells b 69 (bcells s)).rangeAt b 0 ({ p with sign:=s }:Cg).cells:=by
 have e:({ p with sign:=s }:Cg).cells = (bcells p.epoch ++ (p.mid ++ p.chg)) ++ bcells s:=by
  show bcells p.epoch ++ (p.mid ++ (p.chg ++ bcells s)) = _;rw [List.append_assoc,List.append_assoc]
 have hl:(bcells p.epoch ++ (p.mid ++ p.chg)).length = 69:=by
  rw [List.length_append,List.length_append,bcells_length,hp.1,Cg.chg_length hp]; rfl
 rw [e];refine range_append ?_ ?_
 ·refine World.rangeAt_setCells_apart (row_part10 h [] _ (bcells p.sign) ?_ 0 rfl) b 69 _ (.inr (.inl (by rw [hl]; omega)))
  rw [Cg.cells,List.nil_append,List.append_assoc,List.append_assoc]
 ·rw [hl]
  exact World.rangeAt_setCells_same _ _ _ _ (there_of_row h (by rw [Cg.size hp,bcells_length,hs]; omega))
theorem load_cg_range {w:World}{b:Nat}{p:Cg}(h:w.rangeAt b 0 p.cells)(ok:p.Ok):(loadVar 46 ⟨b,0,none⟩).run Tryz.prog w = .ok (.agg p.cells.toArray) w:=
 run_loadVar_mid w b 0 46 _ _ h Tryz.underlying46 rfl (by have:=cgInfo (Cg.size ok); simpa using this)
theorem load_row_hash {w:World}{b:Nat}{l:List UInt8}(hl:l.length = 32)(h:w.heap[b]? = some (.cells (bcells l).toArray 30 (0,0))):(loadVar 30 ⟨b,0,none⟩).run Tryz.prog w = .ok (.agg (bcells l).toArray) w:=
 run_loadVar_row w b 30 30 _ (0,0) _ h Tryz.underlying30 rfl (by have:=hashInfo10 hl; simpa using this)
theorem wp_store_mid_none {P:Program}{o:Oper}{a:Act}{w:World}{K:Act->World->Prop}{Q:Exit->Act->World->Prop}(ty:TypeId)(x y:Operand)(ho:o.op = .store ty x y)(hd:o.dst = none)(b k:Nat)(cells:Array Value)(hx:a.eval x = .pointer (some ⟨b,k,none⟩))(hy:a.eval y = .agg cells)
  (ht:w.there b k cells.size) (hi:(P.info? ty).map (·.size) = some cells.size) (h1:cells.all (·.oneCell') = true) (h:K a (w.setCells b k cells.toList)):o.wp P a w K Q:=
 wp_store_mid ty x y ho b k cells hx hy ht hi h1 (by rw [hd]; exact h)
theorem sign_ok10 (p:Cg)(hp:p.Ok)(k:List UInt8)(hk:k.length = 32)(hr:Cm.right p = true)(w:World)(htab:Tab w):Calls Tryz.prog 22 #[.agg p.cells.toArray,.agg (bcells k).toArray] w λe w'=>e = .returned (.agg (Cm.signed p (Pm.ver k)).cells.toArray)/\Kept w.heap.size w.heap.size w w':=by
 have HLD:=hid (λ(x:World) (b:Nat) (h:x.heap[b]? = some (.cells p.cells.toArray 46 (0,0)))=>load_cg h hp)
 have HLV:=hid (λ(x:World) (b:Nat) (h:x.heap[b]? = some (.cells (bcells k).toArray 30 (0,0)))=>load_row_hash hk h)
 have HRI:=hid (λx=>right_calls10 p hp x)
 rw [hr] at HRI;have HQI:=hid (cgInfo (Cg.size (Cm.signed_ok hp (Pm.ver k))));have HQS:=hid (show Cm.zero.cells.toArray.size = (Cm.signed p (Pm.ver k)).cells.toArray.size by rw [Cg.size (Cm.signed_ok hp (Pm.ver k)),Cg.size Cm.zero_ok])
 have HQA:=hid (Cm.signed p (Pm.ver k)).all;have HST:=hid (λ(x:World) (b:Nat) (h:x.heap[b]? = some (.cells p.cells.toArray 46 (0,0)))=>load_cg_range (p:=Cm.signed p (Pm.ver k)) (stored_sign hp h (Pm.sign (Pm.ver k) (Cm.text p)) (Pm.sign_length _ _)) (Cm.signed_ok hp (Pm.ver k)))
 have HTH:=hid (λ(x:World) (b:Nat) (h:x.heap[b]? = some (.cells p.cells.toArray 46 (0,0)))=>there_of_row (o:=69) (n:=(bcells (Pm.sign (Pm.ver k) (Cm.text p))).toArray.size) h (by rw [Cg.size hp,List.size_toArray,bcells_length,Pm.sign_length]; omega))
 have HSI:=hid (show(Tryz.prog.info? 30).map (·.size) = some (bcells (Pm.sign (Pm.ver k) (Cm.text p))).toArray.size by have:=hashInfo10 (Pm.sign_length (Pm.ver k) (Cm.text p)); simpa using this)
 have HSA:=hid (bcells_all (Pm.sign (Pm.ver k) (Cm.text p)));obtain⟨sc,hsc⟩:∃ s,s = bcells (Pm.sign (Pm.ver k) (Cm.text p)):=⟨_,rfl⟩;have HTO:=hid (λ(x:World) (k:Kept w.heap.size w.heap.size w x)=>textof_calls p hp hr x (htab.onto k))
 have HSG:=hid (λx=>sign_calls k (hid hk) (str (Cm.text p)) (by rw [str_size]; have:=Cm.text_le hp; omega) x)
 rw [str_back] at HSG;obtain⟨D,hD⟩:∃ D,D = p.cells.toArray:=⟨_,rfl⟩;obtain⟨DQ,hDQ⟩:∃ D,D = (Cm.signed p (Pm.ver k)).cells.toArray:=⟨_,rfl⟩;obtain⟨ts,hts⟩:∃ t,t = str (Cm.text p):=⟨_,rfl⟩;obtain⟨kc,hkc⟩:∃ D,D = (bcells k).toArray:=⟨_,rfl⟩;rw [<- hD] at HLD HRI HTO HST HTH |-;rw [<- hDQ] at HQI HQS HQA HST |-;rw [<- hts] at HTO HSG;rw [<- hkc] at HLV HSG |-;rw [<- hsc] at HST HTH HSI HSA HSG;clear hD hDQ hts hkc hsc hr hp hk htab
 go_enter Tryz.func22,Tryz.ntmps22
 go_upto_region 0 with fail
 refine wp_region_lit ?_;iterate 2 (refine wW λK hK=>?_;go_simp;apply hK;clear hK K)
 have R1:((w.alloc (.cells D 46)).alloc (.cells kc 30)).heap[w.heap.size]? = some (.cells D 46 (0,0)):=heap_alloc2_old w _ _
 have R2:((w.alloc (.cells D 46)).alloc (.cells kc 30)).heap[w.heap.size + 1]? = some (.cells kc 30 (0,0)):=heap_alloc2_last w _ _
 have k1:Kept w.heap.size w.heap.size w ((w.alloc (.cells D 46)).alloc (.cells kc 30)):=((Kept.refl _ _ _).alloc (Nat.le_refl _) _).alloc (by simp) _
 generalize (w.alloc (.cells D 46)).alloc (.cells kc 30) = w1 at R1 R2 k1 |-
 obtain⟨pb,hpb⟩:∃ pb,pb = w.heap.size:=⟨_,rfl⟩;have HPW:=hid (show w.heap.size<=pb by omega)
 rw [<- hpb] at R1 R2
 (try rw [<- hpb])
 clear hpb;refine @wpL_alloc _ _ _ _ _ _ _ _ ?_ 46 rfl _ (alloc_cg _) ?_;kernel_rfl
 simp only [Act.put,sA,sB,sC];have k2':Kept w1.heap.size w1.heap.size w1 (w1.alloc (.cells Cm.zero.cells.toArray 46)):=(Kept.refl _ _ _).alloc (Nat.le_refl _) _
 have r3:=heap_new w1 (.cells Cm.zero.cells.toArray 46)
 have r1:=row_kept R1 k2';have r2:=row_kept R2 k2';have K2:=hid (k1.onto k2');have HNE:=hid (show w1.heap.size≠pb by have:=lt_of_block R1; omega)
 have HRW:=hid (show w.heap.size<=w1.heap.size from k1.size);generalize w1.alloc (.cells Cm.zero.cells.toArray 46) = w2 at r1 r2 r3 K2 |-
 obtain⟨rb,hrb⟩:∃ rb,rb = w1.heap.size:=⟨_,rfl⟩;rw [<- hrb] at r3 HNE HRW
 (try rw [<- hrb])
 clear hrb k2' k1 R1 R2;have R1:=hid r1;have R2:=hid r2;have R3:=hid r3;have HLP:=hid (λ(x:World) (k:Kept w2.heap.size w2.heap.size w2 x)=>HLD.out x pb (row_kept R1.out k))
 have HLK:=hid (λ(x:World) (k:Kept w2.heap.size w2.heap.size w2 x)=>HLV.out x (pb + 1) (row_kept R2.out k))
 clear r1 r2 r3
 go_upto_region 1 with fail
 refine wp_region_lit ?_;refine wLk 46 (.tmp 2) rfl (pb) (0) rfl (.agg D) (HLP.out _ (Kept.refl _ _ _)) ?_
 simp only [Act.put,sA,sB,sC];refine wW λK hK=>?_;go_simp;go_at_call 24
 refine(HRI.out _).mono ?_;rintro e w3 ⟨rfl,k3⟩;apply hK;clear hK K;have KD:Kept w2.heap.size w2.heap.size w2 w3.drew:=k3.drew;clear k3
 go_upto_region 2 with fail
 refine wp_region_noPanic ?_;refine wp_region_heldTo 5 (S:=λw'=>Kept w2.heap.size w2.heap.size w2 w') (by kernel_rfl) KD (λhH=>?_)
 refine tkT (i:=0) 7 (.agg kc) rfl (yieldsIf_load_known (by kernel_rfl) 30 _ rfl (pb + 1) (0) rfl (.agg kc) (HLK.out)) hH ?_
 simp only [sA,sB,sC];refine tkT (i:=1) 8 (.agg D) rfl (yieldsIf_load_known (by kernel_rfl) 46 _ rfl (pb) (0) rfl (.agg D) (HLP.out)) hH ?_
 simp only [sA,sB,sC];refine heldTo_one (i:=2) (by kernel_rfl) rfl (λK hK=>?_)
 rw [if_pos (by rfl)]
 go_simp
 go_wp2_with (go_at_call 49; refine(HTO.out _ (K2.out.onto KD)).mono ?_; rintro e w4 ⟨rfl,kw4⟩)
 have K4:Kept w2.heap.size w2.heap.size w2 w4:=KD.onto kw4;refine hK.out _ _ K4 (λhH=>?_)
 clear hK K;refine heldTo_one (i:=3) (by kernel_rfl) rfl (λK hK=>?_)
 rw [if_pos (by rfl)]
 go_simp
 go_wp2_with (go_at_call 50; refine(HSG.out _).mono ?_; rintro e w5 ⟨rfl,kw5⟩)
 have K5:Kept w2.heap.size w2.heap.size w2 w5:=K4.onto kw5;refine hK.out _ _ K5 (λhH=>?_)
 clear hK K;refine tkT (i:=4) 11 (.pointer (some ⟨pb,69,none⟩)) rfl (.inl ⟨by kernel_rfl,λw9 _=>by go_simp; first | done | rfl⟩) hH ?_
 simp only [sA,sB,sC];have r1:=row_kept R1.out K5;have r3:=row_kept R3.out K5;refine heldTo_last (by kernel_rfl) rfl (λK hK=>?_)
 rw [if_pos (by rfl)]
 refine wp_store_mid_none 30 _ _ rfl rfl pb 69 sc.toArray rfl rfl (HTH.out _ _ r1) HSI.out HSA.out ?_
 refine hK.out _ _ ?_;clear hK K;refine heldTo_done (by kernel_rfl) ?_ _
 refine NoPanic.normal ?_;have HLQ:=hid (HST.out _ _ r1);have HRB:=hid ((heap_setCells10 HNE.out sc 69 w5).trans r3);have K9:=hid (kept_setCells pb HPW.out sc 69 w5 (K2.out.onto K5));rw [show sc.toArray.toList = sc from rfl];generalize w5.setCells pb 69 sc = w8 at HLQ HRB K9 |-;clear r1 r3 K5 hH
 go_upto_region 3 with fail
 refine wp_region_lit ?_;refine wLk 46 (.tmp 2) rfl (pb) (0) rfl (.agg DQ) (HLQ.out) ?_
 simp only [Act.put,sA,sB,sC];refine wpList_store_row rfl 46 _ _ rfl (rb) DQ rfl rfl 46 Cm.zero.cells.toArray (HRB.out) (HQI.out) (HQS.out) (HQA.out) ?_
 simp only [Act.put];have R9:=setRow_heap w8 rb Cm.zero.cells.toArray DQ _ _ HRB.out;have k9:Kept w.heap.size w.heap.size w (w8.setRow rb DQ):=Kept.ofBelow (below_setRow (K9.out.below (Nat.le_refl _) (Nat.le_refl _)) HRW.out DQ) (Nat.le_refl _);generalize w8.setRow rb DQ = w9 at R9 k9 |-;go_wp2;refine bodyPost_ret (results_cell_row rfl _ _ rb 46 DQ (0,0) _ rfl R9 Tryz.underlying46 rfl HQI.out) rfl ?_
 exact⟨rfl,k9⟩
theorem check_bad10 (p:Cg)(hp:p.Ok)(v:List UInt8)(hv:v.length = 32)(hr:Cm.right p = false)(w:World):Calls Tryz.prog 21 #[.agg p.cells.toArray,.agg (bcells v).toArray] w λe w'=>e = .returned (.bool (Cm.checks p v))/\Kept w.heap.size w.heap.size w w':=by
 have HLD:=hid (λ(x:World) (b:Nat) (h:x.heap[b]? = some (.cells p.cells.toArray 46 (0,0)))=>load_cg h hp)
 have HLS:=hid (λ(x:World) (b:Nat) (h:x.heap[b]? = some (.cells p.cells.toArray 46 (0,0)))=>load_hash (cg_sign h hp) hp.2.2)
 have HLV:=hid (λ(x:World) (b:Nat) (h:x.heap[b]? = some (.cells (bcells v).toArray 30 (0,0)))=>load_row_hash hv h)
 have HRI:=hid (λx=>right_calls10 p hp x)
 rw [hr] at HRI;have HFIN:Hid (Cm.checks p v = false):=hid (by rw [Cm.checks,hr]; rfl)
 obtain⟨D,hD⟩:∃ D,D = p.cells.toArray:=⟨_,rfl⟩;obtain⟨vc,hvc⟩:∃ D,D = (bcells v).toArray:=⟨_,rfl⟩;obtain⟨sc,hsc⟩:∃ s,s = (bcells p.sign).toArray:=⟨_,rfl⟩;rw [<- hD] at HLD HLS HRI |-;rw [<- hvc] at HLV |-;rw [<- hsc] at HLS;clear hD hvc hsc hr hp hv
 go_enter Tryz.func21,Tryz.ntmps21
 go_upto_region 1 with fail
 have R1:((w.alloc (.cells D 46)).alloc (.cells vc 30)).heap[w.heap.size]? = some (.cells D 46 (0,0)):=heap_alloc2_old w _ _
 have R2:((w.alloc (.cells D 46)).alloc (.cells vc 30)).heap[w.heap.size + 1]? = some (.cells vc 30 (0,0)):=heap_alloc2_last w _ _
 have k1:Kept w.heap.size w.heap.size w ((w.alloc (.cells D 46)).alloc (.cells vc 30)):=((Kept.refl _ _ _).alloc (Nat.le_refl _) _).alloc (by simp) _
 generalize (w.alloc (.cells D 46)).alloc (.cells vc 30) = w1 at R1 R2 k1 |-
 obtain⟨pb,hpb⟩:∃ pb,pb = w.heap.size:=⟨_,rfl⟩;rw [<- hpb] at R1 R2
 (try rw [<- hpb])
 clear hpb;have K1:=hid k1;have HLP:=hid (λ(x:World) (k:Kept w1.heap.size w1.heap.size w1 x)=>HLD.out x pb (row_kept R1 k))
 have HLG:=hid (λ(x:World) (k:Kept w1.heap.size w1.heap.size w1 x)=>HLS.out x pb (row_kept R1 k))
 have HLK:=hid (λ(x:World) (k:Kept w1.heap.size w1.heap.size w1 x)=>HLV.out x (pb + 1) (row_kept R2 k))
 have KD:Kept w1.heap.size w1.heap.size w1 w1.drew:=(Kept.refl _ _ _).drew;clear k1 R1 R2 HLD HLS HLV;refine wp_region_noPanic ?_;refine wp_region_held_drew (S:=λw'=>Kept w1.heap.size w1.heap.size w1 w') (by kernel_rfl) ((Kept.refl _ _ _).drew) (λhH=>?_)
 refine tkA (i:=0) 5 (.agg D) rfl (yieldsIf_load_known (by kernel_rfl) 46 _ rfl (pb) (0) rfl (.agg D) (HLP.out)) hH ?_
 simp only [sA,sB,sC];refine wpAnyH_ready (rs:=[1]) (by kernel_rfl) (by simp) ?_
 refine AllReadyH.cons rfl (λK hK=>?_) AllReadyH.nil
 rw [if_pos (by rfl)]
 go_simp
 go_wp2_with (go_at_call 24; refine(HRI.out _).mono ?_; rintro e w2 ⟨rfl,kw2⟩)
 have K2:Kept w1.heap.size w1.heap.size w1 w2:=KD.trans (kw2.mono KD.size (λi hi _=>Nat.ne_of_lt (Nat.lt_of_lt_of_le hi KD.size)))
 refine hK.out _ _ (K2) (λhH=>?_)
 clear hK K;refine tkE (i:=2) 7 rfl hH ?_
 apply Exists.intro;apply And.intro
 ·intro w9 _
  go_simp
  first | done | rfl
 simp only [sA,sB,sC];refine tkA (i:=3) 8 undef rfl (.inr ⟨by kernel_rfl,rfl⟩) hH ?_
 simp only [sA,sB,sC];refine tkA (i:=4) 9 undef rfl (.inr ⟨by kernel_rfl,rfl⟩) hH ?_
 simp only [sA,sB,sC];refine tkA (i:=5) 10 undef rfl (.inr ⟨by kernel_rfl,rfl⟩) hH ?_
 simp only [sA,sB,sC];refine tkA (i:=6) 11 undef rfl (.inr ⟨by kernel_rfl,rfl⟩) hH ?_
 simp only [sA,sB,sC];refine tkA (i:=7) 12 undef rfl (.inr ⟨by kernel_rfl,rfl⟩) hH ?_
 simp only [sA,sB,sC];refine tkA (i:=8) 13 undef rfl (.inr ⟨by kernel_rfl,rfl⟩) hH ?_
 simp only [sA,sB,sC];refine tkE (i:=9) 14 rfl hH ?_
 apply Exists.intro;apply And.intro
 ·intro w9 _
  go_simp
  first | done | rfl
 simp only [sA,sB,sC];refine tkE (i:=10) 4 rfl hH ?_
 apply Exists.intro;apply And.intro
 ·intro w9 _
  go_simp
  first | done | rfl
 simp only [sA,sB,sC];refine wpAnyH_done (by kernel_rfl) ?_ _
 refine NoPanic.normal ?_;go_wp2;go_ret;rw [HFIN.out];exact⟨rfl,K1.out.onto K2⟩
theorem check_ok10 (p:Cg)(hp:p.Ok)(v:List UInt8)(hv:v.length = 32)(hr:Cm.right p = true)(w:World)(htab:Tab w):Calls Tryz.prog 21 #[.agg p.cells.toArray,.agg (bcells v).toArray] w λe w'=>e = .returned (.bool (Cm.checks p v))/\Kept w.heap.size w.heap.size w w':=by
 have HLD:=hid (λ(x:World) (b:Nat) (h:x.heap[b]? = some (.cells p.cells.toArray 46 (0,0)))=>load_cg h hp)
 have HLS:=hid (λ(x:World) (b:Nat) (h:x.heap[b]? = some (.cells p.cells.toArray 46 (0,0)))=>load_hash (cg_sign h hp) hp.2.2)
 have HLV:=hid (λ(x:World) (b:Nat) (h:x.heap[b]? = some (.cells (bcells v).toArray 30 (0,0)))=>load_row_hash hv h)
 have HRI:=hid (λx=>right_calls10 p hp x)
 rw [hr] at HRI;have HTO:=hid (λ(x:World) (k:Kept w.heap.size w.heap.size w x)=>textof_calls p hp hr x (htab.onto k))
 have HCK:=hid (λx=>check_calls v p.sign (hid hv) (hid hp.2.2) (str (Cm.text p)) (by rw [str_size]; have:=Cm.text_le hp; omega) x)
 rw [str_back] at HCK;have HFIN:Hid (Cm.checks p v = (p.sign == Pm.sign v (Cm.text p))):=hid (by rw [Cm.checks,hr,Bool.true_and])
 obtain⟨q,hq⟩:∃ q,q = (p.sign == Pm.sign v (Cm.text p)):=⟨_,rfl⟩;obtain⟨ts,hts⟩:∃ t,t = str (Cm.text p):=⟨_,rfl⟩;obtain⟨D,hD⟩:∃ D,D = p.cells.toArray:=⟨_,rfl⟩;obtain⟨vc,hvc⟩:∃ D,D = (bcells v).toArray:=⟨_,rfl⟩;obtain⟨sc,hsc⟩:∃ s,s = (bcells p.sign).toArray:=⟨_,rfl⟩;rw [<- hD] at HLD HLS HRI HTO |-;rw [<- hvc] at HLV HCK |-;rw [<- hsc] at HLS HCK;rw [<- hts] at HTO HCK;rw [<- hq] at HCK HFIN;clear hD hvc hsc hts hq hr hp hv htab
 go_enter Tryz.func21,Tryz.ntmps21
 go_upto_region 1 with fail
 have R1:((w.alloc (.cells D 46)).alloc (.cells vc 30)).heap[w.heap.size]? = some (.cells D 46 (0,0)):=heap_alloc2_old w _ _
 have R2:((w.alloc (.cells D 46)).alloc (.cells vc 30)).heap[w.heap.size + 1]? = some (.cells vc 30 (0,0)):=heap_alloc2_last w _ _
 have k1:Kept w.heap.size w.heap.size w ((w.alloc (.cells D 46)).alloc (.cells vc 30)):=((Kept.refl _ _ _).alloc (Nat.le_refl _) _).alloc (by simp) _
 generalize (w.alloc (.cells D 46)).alloc (.cells vc 30) = w1 at R1 R2 k1 |-
 obtain⟨pb,hpb⟩:∃ pb,pb = w.heap.size:=⟨_,rfl⟩;rw [<- hpb] at R1 R2
 (try rw [<- hpb])
 clear hpb;have K1:=hid k1;have HLP:=hid (λ(x:World) (k:Kept w1.heap.size w1.heap.size w1 x)=>HLD.out x pb (row_kept R1 k))
 have HLG:=hid (λ(x:World) (k:Kept w1.heap.size w1.heap.size w1 x)=>HLS.out x pb (row_kept R1 k))
 have HLK:=hid (λ(x:World) (k:Kept w1.heap.size w1.heap.size w1 x)=>HLV.out x (pb + 1) (row_kept R2 k))
 have KD:Kept w1.heap.size w1.heap.size w1 w1.drew:=(Kept.refl _ _ _).drew;clear k1 R1 R2 HLD HLS HLV;refine wp_region_noPanic ?_;refine wp_region_held_drew (S:=λw'=>Kept w1.heap.size w1.heap.size w1 w') (by kernel_rfl) ((Kept.refl _ _ _).drew) (λhH=>?_)
 refine tkA (i:=0) 5 (.agg D) rfl (yieldsIf_load_known (by kernel_rfl) 46 _ rfl (pb) (0) rfl (.agg D) (HLP.out)) hH ?_
 simp only [sA,sB,sC];refine wpAnyH_ready (rs:=[1]) (by kernel_rfl) (by simp) ?_
 refine AllReadyH.cons rfl (λK hK=>?_) AllReadyH.nil
 rw [if_pos (by rfl)]
 go_simp
 go_wp2_with (go_at_call 24; refine(HRI.out _).mono ?_; rintro e w2 ⟨rfl,kw2⟩)
 have K2:Kept w1.heap.size w1.heap.size w1 w2:=KD.trans (kw2.mono KD.size (λi hi _=>Nat.ne_of_lt (Nat.lt_of_lt_of_le hi KD.size)))
 refine hK.out _ _ (K2) (λhH=>?_)
 clear hK K;refine tkE (i:=2) 7 rfl hH ?_
 apply Exists.intro;apply And.intro
 ·intro w9 _
  go_simp
  first | done | rfl
 simp only [sA,sB,sC];refine tkA (i:=3) 8 (.agg vc) rfl (yieldsIf_load_known (by kernel_rfl) 30 _ rfl (pb + 1) (0) rfl (.agg vc) (HLK.out)) hH ?_
 simp only [sA,sB,sC];refine tkA (i:=4) 9 (.agg D) rfl (yieldsIf_load_known (by kernel_rfl) 46 _ rfl (pb) (0) rfl (.agg D) (HLP.out)) hH ?_
 simp only [sA,sB,sC];refine tkE (i:=6) 11 rfl hH ?_
 apply Exists.intro;apply And.intro
 ·intro w9 _
  go_simp
  first | done | rfl
 simp only [sA,sB,sC];refine tkA (i:=7) 12 (.agg sc) rfl (yieldsIf_load_known (by kernel_rfl) 30 _ rfl (pb) (69) rfl (.agg sc) (HLG.out)) hH ?_
 simp only [sA,sB,sC];refine wpAnyH_ready (rs:=[5]) (by kernel_rfl) (by simp) ?_
 refine AllReadyH.cons rfl (λK hK=>?_) AllReadyH.nil
 rw [if_pos (by rfl)]
 go_simp
 go_wp2_with (go_at_call 49; refine(HTO.out _ (K1.out.onto K2)).mono ?_; rintro e w3 ⟨rfl,kw3⟩)
 have K3:Kept w1.heap.size w1.heap.size w1 w3:=K2.trans (kw3.mono K2.size (λi hi _=>Nat.ne_of_lt (Nat.lt_of_lt_of_le hi K2.size)))
 refine hK.out _ _ (K3) (λhH=>?_)
 clear hK K;refine wpAnyH_ready (rs:=[8]) (by kernel_rfl) (by simp) ?_
 refine AllReadyH.cons rfl (λK hK=>?_) AllReadyH.nil
 rw [if_pos (by rfl)]
 go_simp
 go_wp2_with (go_at_call 48; refine(HCK.out _).mono ?_; rintro e w4 ⟨rfl,kw4⟩)
 have K4:Kept w1.heap.size w1.heap.size w1 w4:=K3.trans (kw4.mono K3.size (λi hi _=>Nat.ne_of_lt (Nat.lt_of_lt_of_le hi K3.size)))
 refine hK.out _ _ (K4) (λhH=>?_)
 clear hK K;refine tkE (i:=9) 14 rfl hH ?_
 apply Exists.intro;apply And.intro
 ·intro w9 _
  go_simp
  first | done | rfl
 simp only [sA,sB,sC];refine tkE (i:=10) 4 rfl hH ?_
 apply Exists.intro;apply And.intro
 ·intro w9 _
  go_simp
  first | done | rfl
 simp only [sA,sB,sC];refine wpAnyH_done (by kernel_rfl) ?_ _
 refine NoPanic.normal ?_;go_wp2;go_ret;rw [HFIN.out];exact⟨rfl,K1.out.onto K4⟩
theorem check_calls10 (p:Cg)(hp:p.Ok)(v:List UInt8)(hv:v.length = 32)(w:World)(htab:Tab w):Calls Tryz.prog 21 #[.agg p.cells.toArray,.agg (bcells v).toArray] w λe w'=>e = .returned (.bool (Cm.checks p v))/\Kept w.heap.size w.heap.size w w':=by
 cases hr:Cm.right p
 ·exact check_bad10 p hp v hv hr w
 ·exact check_ok10 p hp v hv hr w htab
theorem alloc_hash10 (w:World):(Instr.alloc 30 true (.tuple #[])).run Tryz.prog w = .ok (.pointer (some ⟨w.heap.size,0,none⟩)) (w.alloc (.cells zeros32 30)):=by kernel_rfl
theorem verify_calls10 (k:List UInt8)(hk:k.length = 32)(w:World):Calls Tryz.prog 23 #[.agg (bcells k).toArray] w λe w'=>e = .returned (.agg (bcells (Pm.ver k)).toArray)/\Kept w.heap.size w.heap.size w w':=by
 have HLV:=hid (λ(x:World) (b:Nat) (h:x.heap[b]? = some (.cells (bcells k).toArray 30 (0,0)))=>load_row_hash hk h)
 have HVE:=hid (λx=>refver_calls k (hid hk) x)
 have HIU:=hid (show(Tryz.prog.info? 30).map (·.size) = some (bcells (Pm.ver k)).toArray.size by have:=hashInfo10 (Pm.ver_length k); simpa using this)
 have HZU:=hid (show zeros32.size = (bcells (Pm.ver k)).toArray.size by rw [zeros32_size,List.size_toArray,bcells_length,Pm.ver_length])
 have HAU:=hid (bcells_all (Pm.ver k));obtain⟨kc,hkc⟩:∃ D,D = (bcells k).toArray:=⟨_,rfl⟩;obtain⟨vc,hvc⟩:∃ D,D = (bcells (Pm.ver k)).toArray:=⟨_,rfl⟩;rw [<- hkc] at HLV HVE |-;rw [<- hvc] at HVE HIU HZU HAU |-;clear hkc hvc hk
 go_enter Tryz.func23,Tryz.ntmps23
 go_upto_region 0 with fail
 refine wp_region_lit ?_;refine wW λK hK=>?_;go_simp;apply hK;clear hK K;have R1:=heap_new w (.cells kc 30)
 have k1:Kept w.heap.size w.heap.size w (w.alloc (.cells kc 30)):=(Kept.refl _ _ _).alloc (Nat.le_refl _) _
 generalize w.alloc (.cells kc 30) = w1 at R1 k1 |-
 obtain⟨pb,hpb⟩:∃ pb,pb = w.heap.size:=⟨_,rfl⟩;rw [<- hpb] at R1
 (try rw [<- hpb])
 clear hpb;refine @wpL_alloc _ _ _ _ _ _ _ _ ?_ 30 rfl _ (alloc_hash10 _) ?_;kernel_rfl
 simp only [Act.put,sA,sB,sC];have k2':Kept w1.heap.size w1.heap.size w1 (w1.alloc (.cells zeros32 30)):=(Kept.refl _ _ _).alloc (Nat.le_refl _) _
 have r2:=heap_new w1 (.cells zeros32 30)
 have r1:=row_kept R1 k2';have K2:=hid (k1.onto k2');have HRW:=hid (show w.heap.size<=w1.heap.size from k1.size);generalize w1.alloc (.cells zeros32 30) = w2 at r1 r2 K2 |-
 obtain⟨rb,hrb⟩:∃ rb,rb = w1.heap.size:=⟨_,rfl⟩;rw [<- hrb] at r2 HRW
 (try rw [<- hrb])
 clear hrb k2' k1 R1
 go_upto_region 1 with fail
 refine wp_region_lit ?_;refine wLk 30 (.tmp 1) rfl (pb) (0) rfl (.agg kc) (HLV.out _ _ r1) ?_
 simp only [Act.put,sA,sB,sC];refine wW λK hK=>?_;go_simp;go_at_call 51
 refine(HVE.out _).mono ?_;rintro e w3 ⟨rfl,k3⟩;apply hK;clear hK K;have r3:=row_kept r2 k3;refine wpList_store_row rfl 30 _ _ rfl (rb) vc rfl rfl 30 zeros32 r3 HIU.out HZU.out HAU.out ?_
 simp only [Act.put];have R9:=setRow_heap w3 rb zeros32 vc _ _ r3;have k9:Kept w.heap.size w.heap.size w (w3.setRow rb vc):=Kept.ofBelow (below_setRow ((K2.out.onto k3).below (Nat.le_refl _) (Nat.le_refl _)) HRW.out vc) (Nat.le_refl _);generalize w3.setRow rb vc = w9 at R9 k9 |-;go_wp2;refine bodyPost_ret (results_cell_row rfl _ _ rb 30 vc (0,0) _ rfl R9 Tryz.underlying30 rfl HIU.out) rfl ?_
 exact⟨rfl,k9⟩
namespace Cm
def exA:Cg:=⟨z32,0,3,1,2,3,z32,z32⟩
def exB:Cg:=⟨z32,0,3,2,3,2,z32,z32⟩
def k1:List UInt8:=1 :: List.replicate 31 0
theorem exA_ok:exA.Ok:=⟨rfl,rfl,rfl⟩
theorem exB_ok:exB.Ok:=⟨rfl,rfl,rfl⟩
theorem exA_right:right exA = true:=by decide +kernel
theorem exB_right:right exB = true:=by decide +kernel
theorem zero_right:right zero = false:=by decide +kernel
theorem less_ab:less exA exB = true:=by decide +kernel
theorem less_ba:less exB exA = false:=by decide +kernel
end Cm
section
variable {P:Program} {ops:Array Oper} {a:Act} {rest:List Oper} {o:Oper} {w:World} {Q:Exit->Act->World->Prop}
theorem wpL_build2 (hw:Region.wanted o (yielded ops a.tmps) = true)(t:TypeId)(i j:Nat)(x y:Operand)(ho:o.op = .build t #[(i,x),(j,y)])(vx vy:Value)(hx:a.eval x = vx)(hy:a.eval y = vy){u:Value}(hr:(Instr.build t #[(i,vx),(j,vy)]).run P w = .ok u w)(hk:wpList P ops Q rest (a.put o.dst u) w):wpList P ops Q (o :: rest) a w:=by
 refine wpList_step λK hK=>?_
 rw [if_pos hw];unfold Oper.wp execOp;simp only [ho,List.map_toArray,List.map_cons,List.map_nil,hx,hy,Sem.run_bind,hr,Result.andThen_ok,Sem.run_pure];exact hK _ _ hk
theorem wpL_build3 (hw:Region.wanted o (yielded ops a.tmps) = true)(t:TypeId)(i j k:Nat)(x y z:Operand)(ho:o.op = .build t #[(i,x),(j,y),(k,z)])(vx vy vz:Value)(hx:a.eval x = vx)(hy:a.eval y = vy)(hz:a.eval z = vz){u:Value}(hr:(Instr.build t #[(i,vx),(j,vy),(k,vz)]).run P w = .ok u w)(hk:wpList P ops Q rest (a.put o.dst u) w):wpList P ops Q (o :: rest) a w:=by
 refine wpList_step λK hK=>?_
 rw [if_pos hw];unfold Oper.wp execOp;simp only [ho,List.map_toArray,List.map_cons,List.map_nil,hx,hy,hz,Sem.run_bind,hr,Result.andThen_ok,Sem.run_pure];exact hK _ _ hk
theorem wpL_build1 (hw:Region.wanted o (yielded ops a.tmps) = true)(t:TypeId)(i:Nat)(x:Operand)(ho:o.op = .build t #[(i,x)])(vx:Value)(hx:a.eval x = vx){u:Value}(hr:(Instr.build t #[(i,vx)]).run P w = .ok u w)(hk:wpList P ops Q rest (a.put o.dst u) w):wpList P ops Q (o :: rest) a w:=by
 refine wpList_step λK hK=>?_
 rw [if_pos hw];unfold Oper.wp execOp;simp only [ho,List.map_toArray,List.map_cons,List.map_nil,hx,Sem.run_bind,hr,Result.andThen_ok,Sem.run_pure];exact hK _ _ hk
end
theorem build_chA (w:World):(Instr.build 44 #[(0,.int .i64 2),(1,.int .i64 3)]).run Tryz.prog w = .ok (.agg Cm.exA.chg.toArray) w:=by kernel_rfl
theorem build_chB (w:World):(Instr.build 44 #[(0,.int .i64 3),(1,.int .i64 2)]).run Tryz.prog w = .ok (.agg Cm.exB.chg.toArray) w:=by kernel_rfl
theorem build_cgA (w:World):(Instr.build 46 #[(2,.int .i64 3),(3,.int .i64 1),(4,.agg Cm.exA.chg.toArray)]).run Tryz.prog w = .ok (.agg Cm.exA.cells.toArray) w:=by kernel_rfl
theorem build_cgB (w:World):(Instr.build 46 #[(2,.int .i64 3),(3,.int .i64 2),(4,.agg Cm.exB.chg.toArray)]).run Tryz.prog w = .ok (.agg Cm.exB.cells.toArray) w:=by kernel_rfl
theorem build_k1 (w:World):(Instr.build 30 #[(0,.int .u8 1)]).run Tryz.prog w = .ok (.agg (bcells Cm.k1).toArray) w:=by kernel_rfl
theorem change_awake (w:World)(htab:Tab w):Calls Tryz.prog 7 #[] w λe w'=>e = .returned (.bool true)/\Kept w.heap.size w.heap.size w w':=by
 have hl1:=λx=>less_calls10 Cm.exA Cm.exB Cm.exA_ok Cm.exB_ok x
 rw [Cm.less_ab] at hl1;have hl2:=λx=>less_calls10 Cm.exB Cm.exA Cm.exB_ok Cm.exA_ok x
 rw [Cm.less_ba] at hl2;have hsi:=λ(x:World) (k:Kept w.heap.size w.heap.size w x)=>sign_ok10 Cm.exA Cm.exA_ok Cm.k1 rfl Cm.exA_right x (htab.onto k)
 have hve:=λx=>verify_calls10 Cm.k1 rfl x
 have hch:=λ(x:World) (k:Kept w.heap.size w.heap.size w x)=>check_calls10 (Cm.signed Cm.exA (Pm.ver Cm.k1)) (Cm.signed_ok Cm.exA_ok _) (Pm.ver Cm.k1) (Pm.ver_length _) x (htab.onto k)
 rw [Cm.checks_signed Cm.exA_right] at hch;have hrb:=λx=>right_calls10 Cm.exB Cm.exB_ok x
 rw [Cm.exB_right] at hrb;have hrz:=λx=>right_calls10 Cm.zero Cm.zero_ok x
 rw [Cm.zero_right] at hrz;have hbA:=build_chA;have hgA:=build_cgA;have hbB:=build_chB;have hgB:=build_cgB;have hbK:=build_k1;have hb0:=build_cg0;have ha0:=alloc_cg;have hk0:=alloc_hash10;have hiA:=cgInfo (Cg.size Cm.exA_ok);have hzA:Cm.zero.cells.toArray.size = Cm.exA.cells.toArray.size:=by rw [Cg.size Cm.zero_ok,Cg.size Cm.exA_ok]
 have haA:=Cm.exA.all;have hiB:=cgInfo (Cg.size Cm.exB_ok);have hzB:Cm.zero.cells.toArray.size = Cm.exB.cells.toArray.size:=by rw [Cg.size Cm.zero_ok,Cg.size Cm.exB_ok]
 have haB:=Cm.exB.all;have hiK:(Tryz.prog.info? 30).map (·.size) = some (bcells Cm.k1).toArray.size:=by have:=hashInfo10 (l:=Cm.k1) rfl; simpa using this
 have hzK:zeros32.size = (bcells Cm.k1).toArray.size:=by rw [zeros32_size,List.size_toArray,bcells_length]; rfl
 have haK:=bcells_all Cm.k1;have hlA:=λ(x:World) (b:Nat) (h:x.heap[b]? = some (.cells Cm.exA.cells.toArray 46 (0,0)))=>load_cg h Cm.exA_ok
 have hlB:=λ(x:World) (b:Nat) (h:x.heap[b]? = some (.cells Cm.exB.cells.toArray 46 (0,0)))=>load_cg h Cm.exB_ok
 have hlK:=λ(x:World) (b:Nat) (h:x.heap[b]? = some (.cells (bcells Cm.k1).toArray 30 (0,0)))=>load_row_hash (l:=Cm.k1) rfl h
 generalize (Cm.signed Cm.exA (Pm.ver Cm.k1)).cells.toArray = SA at hsi hch;generalize (bcells (Pm.ver Cm.k1)).toArray = VK at hve hch;generalize Cm.exA.cells.toArray = DA at hl1 hl2 hsi hgA hiA hzA haA hlA;generalize Cm.exB.cells.toArray = DB at hl1 hl2 hrb hgB hiB hzB haB hlB;generalize (bcells Cm.k1).toArray = kc at hsi hve hbK hiK hzK haK hlK;generalize Cm.exA.chg.toArray = CA at hbA hgA;generalize Cm.exB.chg.toArray = CB at hbB hgB;generalize Cm.zero.cells.toArray = DZ at hrz hb0 ha0 hzA hzB;have HL1:=hid hl1;have HL2:=hid hl2;have HSI:=hid hsi;have HVE:=hid hve;have HCH:=hid hch;have HRB:=hid hrb;have HRZ:=hid hrz;have HBA:=hid hbA;have HGA:=hid hgA;have HBB:=hid hbB;have HGB:=hid hgB;have HBK:=hid hbK;have HB0:=hid hb0;have HA0:=hid ha0;have HK0:=hid hk0;have HIA:=hid hiA;have HZA:=hid hzA;have HAA:=hid haA;have HIB:=hid hiB;have HZB:=hid hzB;have HAB:=hid haB;have HIK:=hid hiK;have HZK:=hid hzK;have HAK:=hid haK;have HLA:=hid hlA;have HLB:=hid hlB;have HLK:=hid hlK;clear hl1 hl2 hsi hve hch hrb hrz hbA hgA hbB hgB hbK hb0 ha0 hk0 hiA hzA haA hiB hzB haB hiK hzK haK hlA hlB hlK htab
 go_enter Tryz.func7,Tryz.ntmps7
 go_upto_region 1 with fail
 refine wp_region_lit ?_;refine @wpL_build2 _ _ _ _ _ _ _ ?_ 44 _ _ _ _ rfl (.int .i64 2) (.int .i64 3) rfl rfl _ (HBA.out _) ?_;kernel_rfl
 simp only [Act.put,sA,sB,sC];refine @wpL_build3 _ _ _ _ _ _ _ ?_ 46 _ _ _ _ _ _ rfl (.int .i64 3) (.int .i64 1) (.agg CA) rfl rfl rfl _ (HGA.out _) ?_;kernel_rfl
 simp only [Act.put,sA,sB,sC];refine @wpL_alloc _ _ _ _ _ _ _ _ ?_ 46 rfl _ (HA0.out _) ?_;kernel_rfl
 simp only [Act.put,sA,sB,sC];refine wpList_store_row rfl 46 _ _ rfl (w.heap.size) DA rfl rfl 46 DZ (heap_new _ _) (HIA.out) (HZA.out) (HAA.out) ?_
 simp only [Act.put];rw [World.setRow_alloc_new];have knw1:Kept w.heap.size w.heap.size w (w.alloc (.cells DA 46)):=(Kept.refl _ _ _).alloc (Nat.le_refl _) _
 have rnw1:=heap_new w (.cells DA 46)
 have Kw1:=knw1;generalize w.alloc (.cells DA 46) = w1 at knw1 rnw1 Kw1  |-
 obtain⟨ba,hba⟩:∃ n,n = w.heap.size:=⟨_,rfl⟩;rw [<- hba] at rnw1
 (try rw [<- hba])
 clear hba knw1;have rba:=rnw1;clear rnw1
 go_upto_region 2 with fail
 refine wp_region_lit ?_;refine @wpL_build2 _ _ _ _ _ _ _ ?_ 44 _ _ _ _ rfl (.int .i64 3) (.int .i64 2) rfl rfl _ (HBB.out _) ?_;kernel_rfl
 simp only [Act.put,sA,sB,sC];refine @wpL_build3 _ _ _ _ _ _ _ ?_ 46 _ _ _ _ _ _ rfl (.int .i64 3) (.int .i64 2) (.agg CB) rfl rfl rfl _ (HGB.out _) ?_;kernel_rfl
 simp only [Act.put,sA,sB,sC];refine @wpL_alloc _ _ _ _ _ _ _ _ ?_ 46 rfl _ (HA0.out _) ?_;kernel_rfl
 simp only [Act.put,sA,sB,sC];refine wpList_store_row rfl 46 _ _ rfl (w1.heap.size) DB rfl rfl 46 DZ (heap_new _ _) (HIB.out) (HZB.out) (HAB.out) ?_
 simp only [Act.put];rw [World.setRow_alloc_new];have knw2:Kept w1.heap.size w1.heap.size w1 (w1.alloc (.cells DB 46)):=(Kept.refl _ _ _).alloc (Nat.le_refl _) _
 have rnw2:=heap_new w1 (.cells DB 46)
 have rbaw2:=row_kept rba knw2;have Kw2:=Kw1.onto knw2;generalize w1.alloc (.cells DB 46) = w2 at knw2 rnw2 Kw2 rbaw2 |-
 obtain⟨bb,hbb⟩:∃ n,n = w1.heap.size:=⟨_,rfl⟩;rw [<- hbb] at rnw2
 (try rw [<- hbb])
 clear hbb knw2;clear rba;have rba:=rbaw2;clear rbaw2;have rbb:=rnw2;clear rnw2
 go_upto_region 3 with fail
 refine wp_region_lit ?_;refine @wpL_build1 _ _ _ _ _ _ _ ?_ 30 _ _ rfl (.int .u8 1) rfl _ (HBK.out _) ?_;kernel_rfl
 simp only [Act.put,sA,sB,sC];refine @wpL_alloc _ _ _ _ _ _ _ _ ?_ 30 rfl _ (HK0.out _) ?_;kernel_rfl
 simp only [Act.put,sA,sB,sC];refine wpList_store_row rfl 30 _ _ rfl (w2.heap.size) kc rfl rfl 30 zeros32 (heap_new _ _) (HIK.out) (HZK.out) (HAK.out) ?_
 simp only [Act.put];rw [World.setRow_alloc_new];have knw3:Kept w2.heap.size w2.heap.size w2 (w2.alloc (.cells kc 30)):=(Kept.refl _ _ _).alloc (Nat.le_refl _) _
 have rnw3:=heap_new w2 (.cells kc 30)
 have rbaw3:=row_kept rba knw3;have rbbw3:=row_kept rbb knw3;have Kw3:=Kw2.onto knw3;generalize w2.alloc (.cells kc 30) = w3 at knw3 rnw3 Kw3 rbaw3 rbbw3 |-
 obtain⟨bk,hbk⟩:∃ n,n = w2.heap.size:=⟨_,rfl⟩;rw [<- hbk] at rnw3
 (try rw [<- hbk])
 clear hbk knw3;clear rba;have rba:=rbaw3;clear rbaw3;clear rbb;have rbb:=rbbw3;clear rbbw3;have rbk:=rnw3;clear rnw3;have LA:=hid (λ(x:World) (k:Kept w3.heap.size w3.heap.size w3 x)=>HLA.out x ba (row_kept rba k))
 have LB:=hid (λ(x:World) (k:Kept w3.heap.size w3.heap.size w3 x)=>HLB.out x bb (row_kept rbb k))
 have LK:=hid (λ(x:World) (k:Kept w3.heap.size w3.heap.size w3 x)=>HLK.out x bk (row_kept rbk k))
 have KW:=hid Kw3;have KD:Kept w3.heap.size w3.heap.size w3 w3.drew:=(Kept.refl _ _ _).drew;clear rba rbb rbk Kw3 Kw1 Kw2
 go_upto_region 4 with fail
 refine wp_region_noPanic ?_;refine wp_region_held_drew (S:=λw'=>Kept w3.heap.size w3.heap.size w3 w') (by kernel_rfl) ((Kept.refl _ _ _).drew) (λhH=>?_)
 refine tkA (i:=0) 9 (.agg DA) rfl (yieldsIf_load_known (by kernel_rfl) 46 _ rfl (ba) (0) rfl (.agg DA) (LA.out)) hH ?_
 simp only [sA,sB,sC];refine tkA (i:=1) 10 (.agg DB) rfl (yieldsIf_load_known (by kernel_rfl) 46 _ rfl (bb) (0) rfl (.agg DB) (LB.out)) hH ?_
 simp only [sA,sB,sC];refine wpAnyH_ready (rs:=[2]) (by kernel_rfl) (by simp) ?_
 refine AllReadyH.cons rfl (λK hK=>?_) AllReadyH.nil
 rw [if_pos (by rfl)]
 go_simp
 go_wp2_with (go_at_call 20; refine(HL1.out _).mono ?_; rintro e w4 ⟨rfl,kw4⟩)
 have K4:Kept w3.heap.size w3.heap.size w3 w4:=KD.trans (kw4.mono KD.size (λi hi _=>Nat.ne_of_lt (Nat.lt_of_lt_of_le hi KD.size)))
 refine hK.out _ _ (K4) (λhH=>?_)
 clear hK K;refine tkE (i:=3) 12 rfl hH ?_
 apply Exists.intro;apply And.intro
 ·intro w9 _
  go_simp
  first | done | rfl
 simp only [sA,sB,sC];refine tkA (i:=4) 13 (.agg DB) rfl (yieldsIf_load_known (by kernel_rfl) 46 _ rfl (bb) (0) rfl (.agg DB) (LB.out)) hH ?_
 simp only [sA,sB,sC];refine tkA (i:=5) 14 (.agg DA) rfl (yieldsIf_load_known (by kernel_rfl) 46 _ rfl (ba) (0) rfl (.agg DA) (LA.out)) hH ?_
 simp only [sA,sB,sC];refine wpAnyH_ready (rs:=[6]) (by kernel_rfl) (by simp) ?_
 refine AllReadyH.cons rfl (λK hK=>?_) AllReadyH.nil
 rw [if_pos (by rfl)]
 go_simp
 go_wp2_with (go_at_call 20; refine(HL2.out _).mono ?_; rintro e w5 ⟨rfl,kw5⟩)
 have K5:Kept w3.heap.size w3.heap.size w3 w5:=K4.trans (kw5.mono K4.size (λi hi _=>Nat.ne_of_lt (Nat.lt_of_lt_of_le hi K4.size)))
 refine hK.out _ _ (K5) (λhH=>?_)
 clear hK K;refine tkE (i:=7) 16 rfl hH ?_
 apply Exists.intro;apply And.intro
 ·intro w9 _
  go_simp
  first | done | rfl
 simp only [sA,sB,sC];refine tkE (i:=8) 17 rfl hH ?_
 apply Exists.intro;apply And.intro
 ·intro w9 _
  go_simp
  first | done | rfl
 simp only [sA,sB,sC];refine tkE (i:=9) 18 rfl hH ?_
 apply Exists.intro;apply And.intro
 ·intro w9 _
  go_simp
  first | done | rfl
 simp only [sA,sB,sC];refine tkA (i:=10) 19 (.agg DA) rfl (yieldsIf_load_known (by kernel_rfl) 46 _ rfl (ba) (0) rfl (.agg DA) (LA.out)) hH ?_
 simp only [sA,sB,sC];refine tkA (i:=11) 20 (.agg kc) rfl (yieldsIf_load_known (by kernel_rfl) 30 _ rfl (bk) (0) rfl (.agg kc) (LK.out)) hH ?_
 simp only [sA,sB,sC];refine tkA (i:=13) 22 (.agg kc) rfl (yieldsIf_load_known (by kernel_rfl) 30 _ rfl (bk) (0) rfl (.agg kc) (LK.out)) hH ?_
 simp only [sA,sB,sC];refine wpAnyH_ready (rs:=[12]) (by kernel_rfl) (by simp) ?_
 refine AllReadyH.cons rfl (λK hK=>?_) AllReadyH.nil
 rw [if_pos (by rfl)]
 go_simp
 go_wp2_with (go_at_call 22; refine(HSI.out _ (KW.out.onto K5)).mono ?_; rintro e w6 ⟨rfl,kw6⟩)
 have K6:Kept w3.heap.size w3.heap.size w3 w6:=K5.trans (kw6.mono K5.size (λi hi _=>Nat.ne_of_lt (Nat.lt_of_lt_of_le hi K5.size)))
 refine hK.out _ _ (K6) (λhH=>?_)
 clear hK K;refine wpAnyH_ready (rs:=[14]) (by kernel_rfl) (by simp) ?_
 refine AllReadyH.cons rfl (λK hK=>?_) AllReadyH.nil
 rw [if_pos (by rfl)]
 go_simp
 go_wp2_with (go_at_call 23; refine(HVE.out _).mono ?_; rintro e w7 ⟨rfl,kw7⟩)
 have K7:Kept w3.heap.size w3.heap.size w3 w7:=K6.trans (kw7.mono K6.size (λi hi _=>Nat.ne_of_lt (Nat.lt_of_lt_of_le hi K6.size)))
 refine hK.out _ _ (K7) (λhH=>?_)
 clear hK K;refine wpAnyH_ready (rs:=[15]) (by kernel_rfl) (by simp) ?_
 refine AllReadyH.cons rfl (λK hK=>?_) AllReadyH.nil
 rw [if_pos (by rfl)]
 go_simp
 go_wp2_with (go_at_call 21; refine(HCH.out _ (KW.out.onto K7)).mono ?_; rintro e w8 ⟨rfl,kw8⟩)
 have K8:Kept w3.heap.size w3.heap.size w3 w8:=K7.trans (kw8.mono K7.size (λi hi _=>Nat.ne_of_lt (Nat.lt_of_lt_of_le hi K7.size)))
 refine hK.out _ _ (K8) (λhH=>?_)
 clear hK K;refine tkE (i:=16) 25 rfl hH ?_
 apply Exists.intro;apply And.intro
 ·intro w9 _
  go_simp
  first | done | rfl
 simp only [sA,sB,sC];refine tkE (i:=17) 26 rfl hH ?_
 apply Exists.intro;apply And.intro
 ·intro w9 _
  go_simp
  first | done | rfl
 simp only [sA,sB,sC];refine tkA (i:=18) 27 (.agg DB) rfl (yieldsIf_load_known (by kernel_rfl) 46 _ rfl (bb) (0) rfl (.agg DB) (LB.out)) hH ?_
 simp only [sA,sB,sC];refine wpAnyH_ready (rs:=[19]) (by kernel_rfl) (by simp) ?_
 refine AllReadyH.cons rfl (λK hK=>?_) AllReadyH.nil
 rw [if_pos (by rfl)]
 go_simp
 go_wp2_with (go_at_call 24; refine(HRB.out _).mono ?_; rintro e w9 ⟨rfl,kw9⟩)
 have K9:Kept w3.heap.size w3.heap.size w3 w9:=K8.trans (kw9.mono K8.size (λi hi _=>Nat.ne_of_lt (Nat.lt_of_lt_of_le hi K8.size)))
 refine hK.out _ _ (K9) (λhH=>?_)
 clear hK K;refine tkE (i:=20) 29 rfl hH ?_
 apply Exists.intro;apply And.intro
 ·intro w9 _
  go_simp
  first | done | rfl
 simp only [sA,sB,sC];refine tkE (i:=21) 30 rfl hH ?_
 apply Exists.intro;apply And.intro
 ·intro w9 _
  go_simp
  first | done | rfl
 simp only [sA,sB,sC];refine tkA (i:=22) 31 (.agg DZ) rfl (yieldsIf_build0 (by kernel_rfl) _ rfl _ HB0.out) hH ?_
 simp only [sA,sB,sC];refine wpAnyH_ready (rs:=[23]) (by kernel_rfl) (by simp) ?_
 refine AllReadyH.cons rfl (λK hK=>?_) AllReadyH.nil
 rw [if_pos (by rfl)]
 go_simp
 go_wp2_with (go_at_call 24; refine(HRZ.out _).mono ?_; rintro e wz ⟨rfl,kwz⟩)
 have Kz:Kept w3.heap.size w3.heap.size w3 wz:=K9.trans (kwz.mono K9.size (λi hi _=>Nat.ne_of_lt (Nat.lt_of_lt_of_le hi K9.size)))
 refine hK.out _ _ (Kz) (λhH=>?_)
 clear hK K;refine tkE (i:=24) 33 rfl hH ?_
 apply Exists.intro;apply And.intro
 ·intro w9 _
  go_simp
  first | done | rfl
 simp only [sA,sB,sC];refine tkE (i:=25) 34 rfl hH ?_
 apply Exists.intro;apply And.intro
 ·intro w9 _
  go_simp
  first | done | rfl
 simp only [sA,sB,sC];refine tkE (i:=26) 0 rfl hH ?_
 apply Exists.intro;apply And.intro
 ·intro w9 _
  go_simp
  first | done | rfl
 simp only [List.setIfInBounds_toArray,List.set_cons_zero];refine wpAnyH_done (by kernel_rfl) ?_ _
 refine NoPanic.normal ?_;go_wp2;go_ret;exact⟨rfl,KW.out.onto Kz⟩
end Go.Proofs.YtinebhdilnndaaaGreatDoor
