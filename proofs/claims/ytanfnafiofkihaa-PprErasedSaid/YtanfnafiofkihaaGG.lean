/-
 BookLaid; BookSort; BookFol; BookKnows: several texts in one.
-/
import Derived.Test.YtanfnafiofkihaaGF
import Derived.Laws.ResultCell
import Derived.Laws.Rows
import Derived.Laws.CopyRow
import Derived.Laws.CopyOwn
import Derived.Laws.Tables
import Derived.Test.YtanfnafiofkihaaGD
import Derived.Test.YtanfnafiofkihaaSortLay
import Derived.Test.YtanfnafiofkihaaGE
import Derived.Maps.RangeWalk
import Derived.Laws.MakeOwn
set_option maxRecDepth 100000
set_option maxHeartbeats 3200000
namespace Go.Proofs.Ytanfnafiofkihaa
open Go.RowKit Go.Lib
open List renaming setIfInBounds_toArray -> sA, set_cons_zero -> sB, set_cons_succ -> sC
open BigFrame renaming wpList_want -> wQ
theorem named_ret {fn:Func}{p u:Tmp}(h:fn.results = #[.cell p 26,.tmp u]){R:Ending->World->Prop}{a:Act}{w:World}(g:Nat)(cs:Array Value)(hp:a.tmps.getD p undef = .pointer (some ⟨g,0,none⟩))(hg:w.heap[g]? = some (.cells cs 26 (0,0)))(hs:cs.size = 32)(hd:a.defers = [])(hR:R (.returned (.tuple #[.agg cs,a.tmps.getD u undef])) w):bodyPost Try.prog fn R .ret a w:=by
 have hia:(Try.prog.info? 26).map (·.size) = some cs.size:=by rw [hs]; kernel_rfl
 refine bodyPost_ret ?_ hd hR;rw [results_cell_tmp h,hp];simp only [asAddr,Sem.run_pure,Result.andThen_ok];rw [run_loadVar_row w g 26 26 cs (0,0) _ hg Try.underlying26 rfl hia]
 rfl
theorem build_zero (w:World):(Instr.build 26 #[]).run Try.prog w = .ok (.agg zeros32) w:=by
 rw [<- zeros32_eq];kernel_rfl
abbrev H32:Type:={l:List UInt8 // l.length = 32}
instance:Inhabited H32:=⟨⟨List.replicate 32 0,by simp⟩⟩
def enc32 (x:H32):List Value:=bcells x.1
def cmp32 (x y:H32):Int:=compareBytes x.1 y.1
def toHL:(R:List (List UInt8))->(∀ x∈R,x.length = 32)->List H32
 | [],_=>[]
 | x :: R,h=>⟨x,h x (by simp)⟩ :: toHL R (λy hy=>h y (by simp [hy]))
def toH (R:List (List UInt8))(h:∀ x∈R,x.length = 32):Array H32:=(toHL R h).toArray
def AllPost (fs:List (List (List UInt8) × List (List UInt8)))(fr:List (List UInt8))(w:World)(e:Ending)(w':World):Prop:=
 ∃ km K,e = .returned (.map (some km))/\Known w' km K/\K.Nodup/\(∀ x,x∈K↔Bk.Cl fs fr x)/\w.heap.size<=km/\Kept w.heap.size w.heap.size w w'
theorem Bok.outs32 {w:World}{base bb b:Nat}{fs:List (List (List UInt8) × List (List UInt8))}{nmf:Lit->Option Value}{S:BokS}(h:Bok w base bb fs b nmf S):∀ f∈fs,∀ x∈f.2,x.length = 32:=λf hf=>by
 obtain⟨i,hi,rfl⟩:=List.getElem_of_mem hf;obtain⟨_,_,_,_,_,hlk⟩:=h.looks;obtain⟨_,_,_,_,_,_,hb,_⟩:=hlk.lies i hi;exact hb.1
theorem inList_mem (K:List (List UInt8))(x:List UInt8):inList K x = true↔x∈K:=by
 unfold inList;exact List.contains_iff_mem
theorem knows_of (pv:Option Addr)(fs:List (List (List UInt8) × List (List UInt8)))(fr:List (List UInt8))(x:List UInt8)(hx:x.length = 32)(u:Value)(w:World)(hall:∀ w',Kept w.heap.size w.heap.size w w'->Calls Try.prog 48 #[.pointer pv,u] w' (AllPost fs fr w')):
  Calls Try.prog 32 #[.pointer pv,.agg (bcells x).toArray,u] w λe w'=>∃ b:Bool,e = .returned (.bool b)/\(b = true↔Bk.Cl fs fr x)/\Kept w.heap.size w.heap.size w w':=by
 obtain⟨bl,hbl⟩:∃ bl,bl = bcells x:=⟨_,rfl⟩;have hbl32:bl.length = 32:=by rw [hbl,bcells_length,hx]
 have hlook:∀ (w':World) (km:Nat) (K:List (List UInt8)),Known w' km K->(Instr.lookup 95 (.map (some km)) (.agg bl.toArray) true).run Try.prog w' = .ok (.tuple #[.agg #[],.bool (inList K x)]) w':=λw' km K h=>by
  rw [hbl];exact known_look h x hx
 rw [<- hbl];have HLOOK:=hid hlook;have HALL:=hid hall;have HX:=hid hx;clear hlook hall hx hbl
 go_enter Try.func32,Try.ntmps32
 go_upto_region 1 with fail
 have hR:(w.alloc (.cells bl.toArray 26)).heap[w.heap.size]? = some (.cells bl.toArray 26 (0,0)):=heap_new _ _
 have k1:Kept w.heap.size w.heap.size w (w.alloc (.cells bl.toArray 26)):=(Kept.refl _ _ _).alloc (Nat.le_refl _) _
 have s1:(w.alloc (.cells bl.toArray 26)).heap.size = w.heap.size + 1:=by simp
 generalize w.alloc (.cells bl.toArray 26) = w1 at hR k1 s1 |-
 obtain⟨wa,hwa⟩:∃ wa,wa = w.heap.size:=⟨_,rfl⟩;have kw1:=k1;rw [<- hwa] at hR s1 |-
 have hS:∀ w',Kept w1.heap.size w1.heap.size w1 w'->w'.rangeAt wa 0 bl:=λw' kk=>by
  have:=World.rangeAt_of_block ((kk.block wa (by omega) (by omega)).trans hR) 0 32
  rwa [show(bl.toArray.extract 0 (0 + 32)).toList = bl by
   rw [Array.toList_extract,List.extract_eq_take_drop,List.drop_zero]
   exact List.take_of_length_le (by show bl.length<=_; omega)] at this
 have hfin:∀ w',Kept w1.heap.size w1.heap.size w1 w'->Kept w.heap.size w.heap.size w w':=λw' k=>kw1.trans (k.mono (by omega) (λi hi _=>by omega))
 have hia:(Try.prog.info? 26).map (·.size) = some bl.length:=by rw [hbl32]; kernel_rfl
 obtain⟨wd,hwd⟩:∃ wd,wd = w1.drew:=⟨_,rfl⟩;have KD:Kept w1.heap.size w1.heap.size w1 wd:=by rw [hwd]; exact(Kept.refl _ _ _).drew
 have HSS:=hid hS;have HFIN:=hid hfin;have HIA:=hid hia;clear hR k1 s1 hwa kw1 hS hfin hia;refine wp_region_noPanic ?_;refine wp_region_held_drew (S:=λw'=>w'.rangeAt wa 0 bl) (by kernel_rfl) (by rw [<- hwd]; exact HSS.out _ KD) (λhH=>?_)
 rw [<- hwd] at hH |-;clear hwd;refine heldTakeAt (i:=0) 10 (.pointer pv) rfl rfl (by kernel_rfl) (by kernel_rfl) (by kernel_rfl) (λ_ _ _ h=>h) (.inl ⟨by rfl,λw9 h9=>by go_simp⟩) hH ?_
 simp only [sA,sB,sC];refine heldTakeAt (i:=1) 11 (u) rfl rfl (by kernel_rfl) (by kernel_rfl) (by kernel_rfl) (λ_ _ _ h=>h) (.inl ⟨by rfl,λw9 h9=>by go_simp⟩) hH ?_
 simp only [sA,sB,sC];refine heldTakeAt (i:=3) 13 (.agg bl.toArray) rfl rfl (by kernel_rfl) (by kernel_rfl) (by kernel_rfl) (λ_ _ _ h=>h) (yieldsIf_load_mid (by rfl) 26 _ rfl wa 0 rfl bl _ (λ_ h=>h) Try.underlying26 rfl HIA.out) hH ?_
 simp only [sA,sB,sC];refine wpAnyH_ready (rs:=[2,8]) (by kernel_rfl) (by simp) ?_
 refine AllReadyH.cons rfl (λK hK=>?_) ?_
 ·rw [if_pos (by rfl)]
  go_simp
  go_wp2_with (go_at_call 48; refine(HALL.out _ (HFIN.out _ KD)).mono ?_; rintro e wx1 ⟨km,KK,rfl,hkn,hnd,hcl,hlow,kx⟩)
  have K1:Kept w1.heap.size w1.heap.size w1 wx1:=KD.trans (kx.mono KD.size (λk hk _=>Nat.ne_of_lt (Nat.lt_of_lt_of_le hk KD.size)))
  have HKN1:=hid hkn;have HCL:=hid hcl;clear hkn hnd hcl hlow kx;refine hK.out _ _ (HSS.out _ K1) (λhH=>?_)
  clear hK K;refine wpAnyH_ready (rs:=[4,8]) (by kernel_rfl) (by simp) ?_
  refine AllReadyH.cons rfl (λK hK=>?_) ?_
  ·rw [if_pos (by rfl)]
   refine wp_lookup_run _ _ 95 true rfl (.map (some km)) (.agg bl.toArray) rfl rfl (HLOOK.out _ _ _ HKN1.out) ?_
   simp only [Act.put,List.getElem_toArray,List.getElem_cons_succ,List.getElem_cons_zero,sA,sB,sC];refine hK.out _ _ (HSS.out _ K1) (λhH=>?_)
   clear hK K;refine heldTakeAt (i:=5) 9 (.tuple #[.agg #[],.bool (inList KK x)]) rfl rfl (by kernel_rfl) (by kernel_rfl) (by kernel_rfl) (λ_ _ _ h=>h) (.inl ⟨by rfl,λw9 h9=>by go_simp⟩) hH ?_
   simp only [sA,sB,sC];refine heldTakeAt (i:=6) 15 (.agg #[]) rfl rfl (by kernel_rfl) (by kernel_rfl) (by kernel_rfl) (λ_ _ _ h=>h) (.inl ⟨by rfl,λw9 h9=>by go_simp⟩) hH ?_
   simp only [sA,sB,sC];refine heldTakeAt (i:=7) 16 (.bool (inList KK x)) rfl rfl (by kernel_rfl) (by kernel_rfl) (by kernel_rfl) (λ_ _ _ h=>h) (.inl ⟨by rfl,λw9 h9=>by go_simp⟩) hH ?_
   simp only [sA,sB,sC];refine wpAnyH_ready (rs:=[8]) (by kernel_rfl) (by simp) ?_
   refine AllReadyH.cons rfl (λK hK=>?_) AllReadyH.nil
   rw [if_pos (by rfl)]
   go_simp;have K3:=K1.alloc K1.size (.cells #[] 116)
   have HKN3:=hid (HKN1.out.same (w':=wx1.alloc (.cells #[] 116)) (Below.heap_alloc _ _ _ HKN1.out.lt))
   refine hK.out _ _ (HSS.out _ K3) (λhH=>?_)
   clear hK K;refine wpAnyH_ready (rs:=[9]) (by kernel_rfl) (by simp) ?_
   refine AllReadyH.cons rfl (λK hK=>?_) AllReadyH.nil
   rw [if_pos (by rfl)]
   go_simp;refine hK.out _ _ (HSS.out _ K3) (λhH=>?_)
   clear hK K;refine heldTakeAt (i:=10) 8 (.bool (inList KK x)) rfl rfl (by kernel_rfl) (by kernel_rfl) (by kernel_rfl) (λ_ _ _ h=>h) (.inl ⟨by rfl,λw9 h9=>by go_simp⟩) hH ?_
   simp only [sA,sB,sC];refine wpAnyH_done (by kernel_rfl) ?_ _
   refine NoPanic.normal ?_;have Hfin:=hid (HFIN.out _ K3);have hb:inList KK x = true↔Bk.Cl fs fr x:=(inList_mem KK x).trans (HCL.out x);generalize inList KK x = bb at hb |-;have HB:=hid hb;clear hb;go_wp2;go_ret;exact⟨bb,rfl,HB.out,Hfin.out⟩
  refine AllReadyH.cons rfl (λK hK=>?_) AllReadyH.nil
  rw [if_pos (by rfl)]
  go_simp;have K4:=K1.alloc K1.size (.cells #[] 116)
  have HKN4:=hid (HKN1.out.same (w':=wx1.alloc (.cells #[] 116)) (Below.heap_alloc _ _ _ HKN1.out.lt))
  refine hK.out _ _ (HSS.out _ K4) (λhH=>?_)
  clear hK K;refine wpAnyH_ready (rs:=[4]) (by kernel_rfl) (by simp) ?_
  refine AllReadyH.cons rfl (λK hK=>?_) AllReadyH.nil
  rw [if_pos (by rfl)]
  refine wp_lookup_run _ _ 95 true rfl (.map (some km)) (.agg bl.toArray) rfl rfl (HLOOK.out _ _ _ HKN4.out) ?_
  simp only [Act.put,List.getElem_toArray,List.getElem_cons_succ,List.getElem_cons_zero,sA,sB,sC];refine hK.out _ _ (HSS.out _ K4) (λhH=>?_)
  clear hK K;refine heldTakeAt (i:=5) 9 (.tuple #[.agg #[],.bool (inList KK x)]) rfl rfl (by kernel_rfl) (by kernel_rfl) (by kernel_rfl) (λ_ _ _ h=>h) (.inl ⟨by rfl,λw9 h9=>by go_simp⟩) hH ?_
  simp only [sA,sB,sC];refine heldTakeAt (i:=6) 15 (.agg #[]) rfl rfl (by kernel_rfl) (by kernel_rfl) (by kernel_rfl) (λ_ _ _ h=>h) (.inl ⟨by rfl,λw9 h9=>by go_simp⟩) hH ?_
  simp only [sA,sB,sC];refine heldTakeAt (i:=7) 16 (.bool (inList KK x)) rfl rfl (by kernel_rfl) (by kernel_rfl) (by kernel_rfl) (λ_ _ _ h=>h) (.inl ⟨by rfl,λw9 h9=>by go_simp⟩) hH ?_
  simp only [sA,sB,sC];refine wpAnyH_ready (rs:=[9]) (by kernel_rfl) (by simp) ?_
  refine AllReadyH.cons rfl (λK hK=>?_) AllReadyH.nil
  rw [if_pos (by rfl)]
  go_simp;refine hK.out _ _ (HSS.out _ K4) (λhH=>?_)
  clear hK K;refine heldTakeAt (i:=10) 8 (.bool (inList KK x)) rfl rfl (by kernel_rfl) (by kernel_rfl) (by kernel_rfl) (λ_ _ _ h=>h) (.inl ⟨by rfl,λw9 h9=>by go_simp⟩) hH ?_
  simp only [sA,sB,sC];refine wpAnyH_done (by kernel_rfl) ?_ _
  refine NoPanic.normal ?_;have Hfin:=hid (HFIN.out _ K4);have hb:inList KK x = true↔Bk.Cl fs fr x:=(inList_mem KK x).trans (HCL.out x);generalize inList KK x = bb at hb |-;have HB:=hid hb;clear hb;go_wp2;go_ret;exact⟨bb,rfl,HB.out,Hfin.out⟩
 refine AllReadyH.cons rfl (λK hK=>?_) AllReadyH.nil
 rw [if_pos (by rfl)]
 go_simp;have K6:=KD.alloc KD.size (.cells #[] 116)
 refine hK.out _ _ (HSS.out _ K6) (λhH=>?_)
 clear hK K;refine wpAnyH_ready (rs:=[2]) (by kernel_rfl) (by simp) ?_
 refine AllReadyH.cons rfl (λK hK=>?_) AllReadyH.nil
 rw [if_pos (by rfl)]
 go_simp
 go_wp2_with (go_at_call 48; refine(HALL.out _ (HFIN.out _ K6)).mono ?_; rintro e wx7 ⟨km,KK,rfl,hkn,hnd,hcl,hlow,kx⟩)
 have K7:Kept w1.heap.size w1.heap.size w1 wx7:=K6.trans (kx.mono K6.size (λk hk _=>Nat.ne_of_lt (Nat.lt_of_lt_of_le hk K6.size)))
 have HKN7:=hid hkn;have HCL:=hid hcl;clear hkn hnd hcl hlow kx;refine hK.out _ _ (HSS.out _ K7) (λhH=>?_)
 clear hK K;refine wpAnyH_ready (rs:=[4]) (by kernel_rfl) (by simp) ?_
 refine AllReadyH.cons rfl (λK hK=>?_) AllReadyH.nil
 rw [if_pos (by rfl)]
 refine wp_lookup_run _ _ 95 true rfl (.map (some km)) (.agg bl.toArray) rfl rfl (HLOOK.out _ _ _ HKN7.out) ?_
 simp only [Act.put,List.getElem_toArray,List.getElem_cons_succ,List.getElem_cons_zero,sA,sB,sC];refine hK.out _ _ (HSS.out _ K7) (λhH=>?_)
 clear hK K;refine heldTakeAt (i:=5) 9 (.tuple #[.agg #[],.bool (inList KK x)]) rfl rfl (by kernel_rfl) (by kernel_rfl) (by kernel_rfl) (λ_ _ _ h=>h) (.inl ⟨by rfl,λw9 h9=>by go_simp⟩) hH ?_
 simp only [sA,sB,sC];refine heldTakeAt (i:=6) 15 (.agg #[]) rfl rfl (by kernel_rfl) (by kernel_rfl) (by kernel_rfl) (λ_ _ _ h=>h) (.inl ⟨by rfl,λw9 h9=>by go_simp⟩) hH ?_
 simp only [sA,sB,sC];refine heldTakeAt (i:=7) 16 (.bool (inList KK x)) rfl rfl (by kernel_rfl) (by kernel_rfl) (by kernel_rfl) (λ_ _ _ h=>h) (.inl ⟨by rfl,λw9 h9=>by go_simp⟩) hH ?_
 simp only [sA,sB,sC];refine wpAnyH_ready (rs:=[9]) (by kernel_rfl) (by simp) ?_
 refine AllReadyH.cons rfl (λK hK=>?_) AllReadyH.nil
 rw [if_pos (by rfl)]
 go_simp;refine hK.out _ _ (HSS.out _ K7) (λhH=>?_)
 clear hK K;refine heldTakeAt (i:=10) 8 (.bool (inList KK x)) rfl rfl (by kernel_rfl) (by kernel_rfl) (by kernel_rfl) (λ_ _ _ h=>h) (.inl ⟨by rfl,λw9 h9=>by go_simp⟩) hH ?_
 simp only [sA,sB,sC];refine wpAnyH_done (by kernel_rfl) ?_ _
 refine NoPanic.normal ?_;have Hfin:=hid (HFIN.out _ K7);have hb:inList KK x = true↔Bk.Cl fs fr x:=(inList_mem KK x).trans (HCL.out x);generalize inList KK x = bb at hb |-;have HB:=hid hb;clear hb;go_wp2;go_ret;exact⟨bb,rfl,HB.out,Hfin.out⟩
end Go.Proofs.Ytanfnafiofkihaa
