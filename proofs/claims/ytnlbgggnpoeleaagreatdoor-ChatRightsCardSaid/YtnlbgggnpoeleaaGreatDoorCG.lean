/-
 ChatOpen; ChatPack: several texts in one.
-/
import Derived.Test.YtnlbgggnpoeleaaGreatDoorCA
import Derived.Test.YtnlbgggnpoeleaaGreatDoorGA
import Derived.Lib.SmallJoins
import Derived.Deep.Strs
import Derived.Test.YtnlbgggnpoeleaaGreatDoorCD
import Derived.Test.YtnlbgggnpoeleaaGreatDoorGV
set_option maxRecDepth 100000
set_option maxHeartbeats 6400000
namespace Go.Proofs.YtnlbgggnpoeleaaGreatDoor
open Go.ChangeShapes Go.WideShapes Go.ChangeAt Go.RowKit Go.Deep Go.Lib Go.Joins
theorem ntCells14:Tryz.prog.cellsOf 25 = 36:=by kernel_rfl
theorem intCells14:Tryz.prog.cellsOf 3 = 1:=by kernel_rfl
theorem strCells14:Tryz.prog.cellsOf 9 = 1:=by kernel_rfl
section
variable {H:Type} {P:Program} {enc:TypeId × Value->H} {w:World} {base:Nat} {spare:Nat->Bool} {held:Bool}
theorem trod_struct5 {t:TypeId}{f0 f1 f2 f3 f4:Field}{fuel:Nat}{cs:List Value}{x:DataW H × List MemPlace}(ht:P.underlying t = some (.struct #[f0,f1,f2,f3,f4]))(h:DataW.trod enc P w base spare held fuel t cs = some x):
  ∃ y0 y1 y2 y3 y4 n,cs.length = P.cellsOf t/\DataW.trod enc P w base spare held n f0.type ((cs.drop f0.offset).take (P.cellsOf f0.type)) = some y0 /\
   DataW.trod enc P w base spare held n f1.type ((cs.drop f1.offset).take (P.cellsOf f1.type)) = some y1/\DataW.trod enc P w base spare held n f2.type ((cs.drop f2.offset).take (P.cellsOf f2.type)) = some y2 /\
   DataW.trod enc P w base spare held n f3.type ((cs.drop f3.offset).take (P.cellsOf f3.type)) = some y3/\DataW.trod enc P w base spare held n f4.type ((cs.drop f4.offset).take (P.cellsOf f4.type)) = some y4:=by
 obtain⟨xs,n,_,rfl,hl,hlen,hf⟩:=DataW.trod_struct ht h
 match xs,hlen with
 | [y0,y1,y2,y3,y4],_=>exact⟨y0,y1,y2,y3,y4,n,hl,by simpa using hf 0 f0 rfl,by simpa using hf 1 f1 rfl,by simpa using hf 2 f2 rfl,by simpa using hf 3 f3 rfl,by simpa using hf 4 f4 rfl⟩
end
theorem cut_next14 (es:List Value)(a n b:Nat)(h:b = a + n):es.drop a = (es.drop a).take n ++ es.drop b:=by
 rw [h,<- List.drop_drop,List.take_append_drop]
theorem open_note14 {H:Type}{enc:TypeId × Value->H}{w:World}{base:Nat}{v:Value}{d:DataW H}{q:List MemPlace}(hv:Value.okWide Tryz.prog w .any base 25 v)(h:DataW.Trod enc Tryz.prog w 0 (λ_=>true) true 25 v d q):∃ n:Nt,n.ep.length = 32/\(-9223372036854775808<=n.author/\n.author<=9223372036854775807)/\(-9223372036854775808<=n.gen/\n.gen<=9223372036854775807)/\v = .agg n.cells.toArray:=by
 unfold Value.okWide at hv;rw [Tryz.underlying25] at hv
 obtain⟨cs,rfl,_⟩:=hv;obtain⟨fuel,hf⟩:=h;obtain⟨y0,y1,y2,y3,y4,m,hl,g0,g1,g2,g3,g4⟩:=trod_struct5 Tryz.underlying25 hf
 rw [ntCells14] at hl;simp only at g0 g1 g2 g3 g4;rw [intCells14] at g1 g2 g3;rw [hashCells30] at g0;rw [strCells14] at g4;obtain⟨dp,hdp,_⟩:=DataW.trod_int Tryz.underlying3 g1
 obtain⟨au,hau,_,wau⟩:=DataW.trod_int Tryz.underlying3 g2
 obtain⟨gn,hgn,_,wgn⟩:=DataW.trod_int Tryz.underlying3 g3
 obtain⟨tx,htx,_,_⟩:=DataW.trod_string Tryz.underlying9 g4
 obtain⟨le,hle,he⟩:=open_hash_cells g0;refine⟨⟨le,dp,au,gn,tx⟩,hle,bounds_i64 wau,bounds_i64 wgn,?_⟩;obtain⟨es,hes⟩:∃ es:List Value,es = cs.toList:=⟨_,rfl⟩;have hc:(Value.agg cs).cells.toList = es:=by rw [hes]; rfl
 rw [hc] at hl hdp hau hgn he htx
 have e:es = Nt.cells ⟨le,dp,au,gn,tx⟩:=by
  have h1:=cut_next14 es 0 32 32 rfl;have h2:=cut_next14 es 32 1 33 rfl;have h3:=cut_next14 es 33 1 34 rfl;have h4:=cut_next14 es 34 1 35 rfl;rw [List.drop_zero] at he h1;rw [h1,h2,h3,h4,show es.drop 35 = (es.drop 35).take 1 from(List.take_of_length_le (by rw [List.length_drop]; omega)).symm]
  rw [he,hdp,hau,hgn,htx]
  rfl
 exact congrArg Value.agg (Array.ext' (hes ▸ e))
end Go.Proofs.YtnlbgggnpoeleaaGreatDoor
namespace Go.Proofs.YtnlbgggnpoeleaaGreatDoor
open Go.RowKit Go.Lib
open List renaming setIfInBounds_toArray -> sA, set_cons_zero -> sB, set_cons_succ -> sC
open BigFrame renaming wpList_want -> wQ
theorem Pu.text14 {w0 w:World}{base b:Nat}{s:List UInt8}(h:Pu w0 base b s w)(t:ByteArray)(ht:t.size<=65536)(hs:s.length<=100000):Calls Tryz.prog 29 #[.pointer (some ⟨b,0,none⟩),.string t] w λe w'=>e = .returned (.tuple #[])/\Pu w0 base b (s ++ (Wm.enc t.size ++ t.data.toList)) w':=by
 refine(wtext_f base b _ (some s) t w (wrv_of h.wr) h.tab (by omega) (short_of hs)).mono ?_
 rintro e w' ⟨rfl,h1,k,f⟩;have hsz:t.data.toList.length = t.size:=by simp
 rw [pText,if_pos (by omega),hsz] at h1
 exact⟨rfl,h.next (wr_of h1) k f⟩
theorem load_intC14 {w:World}{g o:Nat}{x:Int}(h:w.cell? ⟨g,o,none⟩ = some (.int .i64 x)):(loadVar 3 ⟨g,o,none⟩).run Tryz.prog w = .ok (.int .i64 x) w:=by
 go_simp
theorem load_strC14 {w:World}{g o:Nat}{x:ByteArray}(h:w.cell? ⟨g,o,none⟩ = some (.string x)):(loadVar 9 ⟨g,o,none⟩).run Tryz.prog w = .ok (.string x) w:=by
 go_simp
namespace Cn
def body (n:Nt):List UInt8:=head n ++ (Wm.enc n.text.size ++ n.text.data.toList)
def packed (n:Nt):ByteArray:=if right n = true then str (body n) else ⟨#[]⟩
theorem num_of_right {n:Nt}(h:right n = true):Num n:=by
 rw [right_iff] at h;obtain⟨h1,h2,h3,_⟩:=h;exact⟨h1,by omega,by omega,by omega⟩
theorem text_of_right {n:Nt}(h:right n = true):n.text.size<=1040:=by
 rw [right_iff] at h
 omega
end Cn
theorem pack_calls14 (n:Nt)(hn:n.ep.length = 32)(w:World)(tab:Tab w):
  Calls Tryz.prog 9 #[.agg n.cells.toArray] w λe w'=>e = .returned (.string (Cn.packed n))/\Kept w.heap.size w.heap.size w w':=by
 have HRT:=hid (λ(x:World)=>noteright_calls n hn x)
 have HPH:=hid (λ(hr:Cn.right n = true) (base b:Nat) (x:World) (p:Pu x base b [] x)=>puthead_calls n hn (Cn.num_of_right hr) base b [] (by simp) x p)
 have hhl:=Cn.head_length hn;have HTX:=hid (λ(hr:Cn.right n = true) (w0 x:World) (base b:Nat) (p:Pu w0 base b (Cn.head n) x)=>p.text14 n.text (by have:=Cn.text_of_right hr; omega) (by omega))
 have HLN:=hid (λ(u:World) (nb:Nat) (h:u.heap[nb]? = some (.cells n.cells.toArray 25 (0,0)))=>load_note hn h)
 have HLC:=hid (λ(u:World) (nb:Nat) (h:u.heap[nb]? = some (.cells n.cells.toArray 25 (0,0)))=>(note_cell hn h).2.2.2)
 have HPK:=hid (show Cn.packed n = if Cn.right n = true then str (Cn.body n) else ⟨#[]⟩ from rfl)
 have HWR:=hid (λ(base b:Nat) (x:World) (h:Wr x base b (some (Cn.body n)))=>written_calls14 base b (Cn.body n) x h)
 have HBD:=hid (show Cn.head n ++ (Wm.enc n.text.size ++ n.text.data.toList) = Cn.body n from rfl);obtain⟨ND,hND⟩:∃ x,x = n.cells.toArray:=⟨_,rfl⟩;rw [<- hND] at HRT HPH HLN HLC |-;obtain⟨ss,hss⟩:∃ ss,ss = str (Cn.body n):=⟨_,rfl⟩;rw [<- hss] at HWR HPK;obtain⟨rs,hrs⟩:∃ x,x = Cn.packed n:=⟨_,rfl⟩;rw [<- hrs] at HPK |-;obtain⟨rt,hrt⟩:∃ x,x = Cn.right n:=⟨_,rfl⟩;rw [<- hrt] at HRT HPH HTX HPK;obtain⟨tx,htx⟩:∃ x,x = n.text:=⟨_,rfl⟩;rw [<- htx] at HTX HLC HBD;have HTB:=hid tab;clear hn hND hss hrs hrt htx hhl tab
 go_enter Tryz.func9,Tryz.ntmps9
 go_upto_region 0 with fail
 refine wp_region_lit ?_;iterate 2 (refine wW λK hK=>?_;go_simp;apply hK;clear hK K)
 have kn:Kept w.heap.size w.heap.size w (w.alloc (.cells ND 25)):=(Kept.refl _ _ _).alloc (Nat.le_refl _) _
 have rn:=heap_new w (.cells ND 25)
 generalize w.alloc (.cells ND 25) = w1 at kn rn |-
 obtain⟨nb,hnb⟩:∃ x,x = w.heap.size:=⟨_,rfl⟩;rw [<- hnb] at rn
 (try rw [<- hnb])
 have HNB:=hid (show nb < w1.heap.size from lt_of_block rn);have RN:=hid rn;have K1:=hid kn;clear kn rn hnb
 go_upto_region 1 with fail
 refine wp_region_lit ?_;refine wLk 25 (.tmp 1) rfl (nb) (0) rfl (.agg ND) (HLN.out _ _ RN.out) ?_
 simp only [Act.put,sA,sB,sC];refine wW λK hK=>?_;go_simp;go_at_call 13
 refine(HRT.out _).mono ?_;rintro e w1b ⟨rfl,kr⟩;have RN1:=hid (row_kept RN.out kr);have K1b:=hid (K1.out.onto kr);have HNB1:=hid (show nb < w1b.heap.size by have:=HNB.out; have:=kr.size; omega)
 clear kr;apply hK;clear hK K;refine wW λK hK=>?_;go_simp;apply hK;clear hK K
 cases rt with
 | false=>
  go_upto_region 2 with fail
  refine wp_region_lit ?_;refine wW λK hK=>?_;go_simp;apply hK;clear hK K;go_wp2;go_ret;exact⟨by rw [HPK.out]; rfl,K1b.out⟩
 | true=>
  go_upto_region 3 with fail
  refine wp_region_lit ?_;refine wW λK hK=>?_;go_simp;go_at_call 27
  refine(new_calls w1b).mono ?_;rintro e w2 ⟨rfl,hw2,k2,hs2⟩;obtain⟨wb,hwb⟩:∃ x,x = w1b.heap.size:=⟨_,rfl⟩;rw [<- hwb] at hw2
  (try rw [<- hwb])
  have P2:=hid (Pu.start hw2 (HTB.out.onto11 (K1b.out.onto k2)) (by have:=HTB.out.lt; have:=K1b.out.size; omega))
  have RN2:=hid (row_kept RN1.out k2);have K2:=hid (K1b.out.onto k2);have HWB:=hid (show w.heap.size<=wb by rw [hwb]; exact K1b.out.size)
  have HNE:=hid (show nb≠wb by have:=HNB1.out; omega)
  clear hw2 k2 hs2 hwb;apply hK;clear hK K;refine wW λK hK=>?_;go_simp;apply hK;clear hK K
  go_upto_region 4 with fail
  refine wp_region_lit ?_;refine wW λK hK=>?_;go_simp;apply hK;clear hK K;refine wLk 25 (.tmp 1) rfl (nb) (0) rfl (.agg ND) (HLN.out _ _ RN2.out) ?_
  simp only [Act.put,sA,sB,sC];refine wW λK hK=>?_;go_simp;go_at_call 28
  refine(HPH.out rfl _ _ _ P2.out).mono ?_;rintro e w3 ⟨rfl,p3⟩;rw [List.nil_append] at p3;have P3:=hid p3;have c35:=HLC.out _ _ (p3.box RN2.out HNE.out (by decide))
  clear p3;apply hK;clear hK K
  go_upto_region 5 with fail
  refine wp_region_lit ?_;iterate 3 (refine wW λK hK=>?_;go_simp;apply hK;clear hK K)
  refine wW λK hK=>?_;go_simp;go_at_call 29
  refine(HTX.out rfl _ _ _ _ P3.out).mono ?_;rintro e w4 ⟨rfl,p4⟩;rw [HBD.out] at p4;have P4:=hid p4;have KF:=hid (show Kept w.heap.size w.heap.size w w4 from K2.out.trans ⟨p4.kp.os,p4.kp.tape,p4.kp.output,p4.kp.size,λi hi _=>p4.kp.block i (by have:=HWB.out; omega) (by have:=HWB.out; omega)⟩)
  clear p4 c35;apply hK;clear hK K
  go_upto_region 6 with fail
  refine wp_region_lit ?_;refine wW λK hK=>?_;go_simp;apply hK;clear hK K;refine wW λK hK=>?_;go_simp;go_at_call 30
  refine(HWR.out _ _ _ P4.out.wr).mono ?_;rintro e w5 ⟨rfl,hw⟩;subst hw;apply hK;clear hK K;refine wW λK hK=>?_;go_simp;apply hK;clear hK K;go_wp2;go_ret;exact⟨by rw [HPK.out]; rfl,KF.out⟩
theorem refhead_calls14 (n:Nt)(hn:n.ep.length = 32)(hv:Cn.Num n)(w:World):
  Calls Tryz.prog 35 #[.agg n.cells.toArray] w λe w'=>e = .returned (.string (str (Cn.head n)))/\Kept w.heap.size w.heap.size w w':=by
 obtain⟨⟨hd0,hd1⟩,⟨ha0,ha1⟩,hg0,hg1⟩:=hv;have hcd:((n.depth.toNat:Nat):Int) = n.depth:=by omega
 have hca:((n.author.toNat:Nat):Int) = n.author:=by omega
 have hcg:((n.gen.toNat:Nat):Int) = n.gen:=by omega
 have HHA:=hid (λ(x:World)=>refhash n.ep hn x)
 have HRD:=hid (λ(x:World)=>refnum n.depth.toNat x (by omega))
 have HRA:=hid (λ(x:World)=>refnum n.author.toNat x (by omega))
 have HRG:=hid (λ(x:World)=>refnum n.gen.toNat x (by omega))
 have HLE:=hid (λ(u:World) (nb:Nat) (h:u.heap[nb]? = some (.cells n.cells.toArray 25 (0,0)))=>note_ep hn h)
 have HLC:=hid (λ(u:World) (nb:Nat) (h:u.heap[nb]? = some (.cells n.cells.toArray 25 (0,0)))=>(by rw [hcd,hca,hcg]; exact⟨(note_cell hn h).1,(note_cell hn h).2.1,(note_cell hn h).2.2.1⟩:u.cell? ⟨nb,32,none⟩ = some (.int .i64 (n.depth.toNat:Nat))/\u.cell? ⟨nb,33,none⟩ = some (.int .i64 (n.author.toNat:Nat))/\u.cell? ⟨nb,34,none⟩ = some (.int .i64 (n.gen.toNat:Nat))))
 have HEQ:=hid (show((str n.ep ++ str (Wm.enc n.depth.toNat)) ++ str (Wm.enc n.author.toNat)) ++ str (Wm.enc n.gen.toNat) = str (Cn.head n) by simp [Cn.head,str_append])
 have z0:(str n.ep).size = 32:=by rw [str_size,hn]
 have z1:(str (Wm.enc n.depth.toNat)).size<=8:=by rw [str_size]; exact Wm.enc_length_le _
 have z2:(str (Wm.enc n.author.toNat)).size<=8:=by rw [str_size]; exact Wm.enc_length_le _
 have z3:(str (Wm.enc n.gen.toNat)).size<=8:=by rw [str_size]; exact Wm.enc_length_le _
 obtain⟨ND,hND⟩:∃ x,x = n.cells.toArray:=⟨_,rfl⟩;rw [<- hND] at HLE HLC |-;obtain⟨EP,hEP⟩:∃ x,x = (bcells n.ep).toArray:=⟨_,rfl⟩;rw [<- hEP] at HHA HLE;generalize str (Cn.head n) = res at HEQ |-;generalize str n.ep = e0 at HHA HEQ z0;generalize str (Wm.enc n.depth.toNat) = e1 at HRD HEQ z1;generalize str (Wm.enc n.author.toNat) = e2 at HRA HEQ z2;generalize str (Wm.enc n.gen.toNat) = e3 at HRG HEQ z3;generalize n.depth.toNat = dn at HRD HLC;generalize n.author.toNat = an at HRA HLC;generalize n.gen.toNat = gn at HRG HLC;have y1:(e0 ++ e1).size<=40:=by rw [ByteArray.size_append]; omega
 have y2:(e0 ++ e1 ++ e2).size<=48:=by rw [ByteArray.size_append]; omega
 clear hd0 hd1 ha0 ha1 hg0 hg1 hcd hca hcg hn hND hEP y1 y2
 go_enter Tryz.func35,Tryz.ntmps35
 go_upto_region 0 with fail
 refine wp_region_lit ?_;iterate 2 (refine wW λK hK=>?_;go_simp;apply hK;clear hK K)
 have kn:Kept w.heap.size w.heap.size w (w.alloc (.cells ND 25)):=(Kept.refl _ _ _).alloc (Nat.le_refl _) _
 have rn:=heap_new w (.cells ND 25)
 generalize w.alloc (.cells ND 25) = w1 at kn rn |-
 obtain⟨nb,hnb⟩:∃ x,x = w.heap.size:=⟨_,rfl⟩;rw [<- hnb] at rn
 (try rw [<- hnb])
 have HNB:=hid (show nb < w1.heap.size from lt_of_block rn);have RN:=hid rn;have K1:=hid kn;clear kn rn hnb;have KD:Kept w1.heap.size w1.heap.size w1 w1.drew:=(Kept.refl _ _ _).drew
 go_upto_region 1 with fail
 refine wp_region_noPanic ?_;refine wp_region_held_drew (S:=λw'=>Kept w1.heap.size w1.heap.size w1 w') (by kernel_rfl) (KD) (λhH=>?_)
 refine tkE (i:=0) 3 rfl hH ?_
 apply Exists.intro;apply And.intro
 ·intro w9 _
  go_simp
  first | done | rfl
 simp only [sA,sB,sC];refine tkA (i:=1) 4 (.agg EP) rfl (yieldsIf_load_known (by kernel_rfl) 23 _ rfl (nb) (0) rfl (.agg EP) (λx k=>HLE.out x nb (row_kept RN.out k))) hH ?_
 simp only [sA,sB,sC];refine tkE (i:=3) 6 rfl hH ?_
 apply Exists.intro;apply And.intro
 ·intro w9 _
  go_simp
  first | done | rfl
 simp only [sA,sB,sC];refine tkA (i:=4) 7 (.int .i64 (dn:Nat)) rfl (yieldsIf_load_known (by kernel_rfl) 3 _ rfl (nb) (32) rfl (.int .i64 (dn:Nat)) (λx k=>load_intC14 (HLC.out x nb (row_kept RN.out k)).1)) hH ?_
 simp only [sA,sB,sC];refine tkE (i:=7) 10 rfl hH ?_
 apply Exists.intro;apply And.intro
 ·intro w9 _
  go_simp
  first | done | rfl
 simp only [sA,sB,sC];refine tkA (i:=8) 11 (.int .i64 (an:Nat)) rfl (yieldsIf_load_known (by kernel_rfl) 3 _ rfl (nb) (33) rfl (.int .i64 (an:Nat)) (λx k=>load_intC14 (HLC.out x nb (row_kept RN.out k)).2.1)) hH ?_
 simp only [sA,sB,sC];refine tkE (i:=11) 14 rfl hH ?_
 apply Exists.intro;apply And.intro
 ·intro w9 _
  go_simp
  first | done | rfl
 simp only [sA,sB,sC];refine tkA (i:=12) 15 (.int .i64 (gn:Nat)) rfl (yieldsIf_load_known (by kernel_rfl) 3 _ rfl (nb) (34) rfl (.int .i64 (gn:Nat)) (λx k=>load_intC14 (HLC.out x nb (row_kept RN.out k)).2.2)) hH ?_
 simp only [sA,sB,sC];refine wpAnyH_ready (rs:=[2]) (by kernel_rfl) (by simp) ?_
 refine AllReadyH.cons rfl (λK hK=>?_) AllReadyH.nil
 rw [if_pos (by rfl)]
 go_simp
 go_wp2_with (go_at_call 64; refine(HHA.out _).mono ?_; rintro e x1 ⟨rfl,kx1⟩)
 have X1:Kept w1.heap.size w1.heap.size w1 x1:=KD.trans (kx1.mono KD.size (λi hi _=>Nat.ne_of_lt (Nat.lt_of_lt_of_le hi KD.size)))
 refine hK.out _ _ (X1) (λhH=>?_)
 clear hK K;refine wpAnyH_ready (rs:=[5]) (by kernel_rfl) (by simp) ?_
 refine AllReadyH.cons rfl (λK hK=>?_) AllReadyH.nil
 rw [if_pos (by rfl)]
 go_simp
 go_wp2_with (go_at_call 56; refine(HRD.out _).mono ?_; rintro e x2 ⟨rfl,kx2⟩)
 have X2:Kept w1.heap.size w1.heap.size w1 x2:=X1.trans (kx2.mono X1.size (λi hi _=>Nat.ne_of_lt (Nat.lt_of_lt_of_le hi X1.size)))
 refine hK.out _ _ (X2) (λhH=>?_)
 clear hK K;refine tkA (i:=6) 9 (.string (e0 ++ e1)) rfl (.inl ⟨by kernel_rfl,λw9 h9=>by go_simp; first | done | rfl | omega⟩) hH ?_
 simp only [sA,sB,sC];refine wpAnyH_ready (rs:=[9]) (by kernel_rfl) (by simp) ?_
 refine AllReadyH.cons rfl (λK hK=>?_) AllReadyH.nil
 rw [if_pos (by rfl)]
 go_simp
 go_wp2_with (go_at_call 56; refine(HRA.out _).mono ?_; rintro e x3 ⟨rfl,kx3⟩)
 have X3:Kept w1.heap.size w1.heap.size w1 x3:=X2.trans (kx3.mono X2.size (λi hi _=>Nat.ne_of_lt (Nat.lt_of_lt_of_le hi X2.size)))
 refine hK.out _ _ (X3) (λhH=>?_)
 clear hK K;refine tkA (i:=10) 13 (.string (e0 ++ e1 ++ e2)) rfl (.inl ⟨by kernel_rfl,λw9 h9=>by go_simp; first | done | rfl | omega⟩) hH ?_
 simp only [sA,sB,sC];refine wpAnyH_ready (rs:=[13]) (by kernel_rfl) (by simp) ?_
 refine AllReadyH.cons rfl (λK hK=>?_) AllReadyH.nil
 rw [if_pos (by rfl)]
 go_simp
 go_wp2_with (go_at_call 56; refine(HRG.out _).mono ?_; rintro e x4 ⟨rfl,kx4⟩)
 have X4:Kept w1.heap.size w1.heap.size w1 x4:=X3.trans (kx4.mono X3.size (λi hi _=>Nat.ne_of_lt (Nat.lt_of_lt_of_le hi X3.size)))
 refine hK.out _ _ (X4) (λhH=>?_)
 clear hK K;refine tkA (i:=14) 17 (.string (e0 ++ e1 ++ e2 ++ e3)) rfl (.inl ⟨by kernel_rfl,λw9 h9=>by go_simp; first | done | rfl | omega⟩) hH ?_
 simp only [sA,sB,sC];refine tkE (i:=15) 2 rfl hH ?_
 apply Exists.intro;apply And.intro
 ·intro w9 _
  go_simp
  first | done | rfl
 simp only [sA,sB,sC];refine wpAnyH_done (by kernel_rfl) ?_ _
 refine NoPanic.normal ?_;go_wp2;go_ret;exact⟨by rw [<- HEQ.out]; rfl,K1.out.onto X4⟩
theorem refpack_calls14 (n:Nt)(hn:n.ep.length = 32)(hr:Cn.right n = true)(w:World):
  Calls Tryz.prog 14 #[.agg n.cells.toArray] w λe w'=>e = .returned (.string (Cn.packed n))/\Kept w.heap.size w.heap.size w w':=by
 have htz:=Cn.text_of_right hr;have HHD:=hid (λ(x:World)=>refhead_calls14 n hn (Cn.num_of_right hr) x)
 have HTX:=hid (λ(x:World)=>reftext n.text x (by omega))
 have HLN:=hid (λ(u:World) (nb:Nat) (h:u.heap[nb]? = some (.cells n.cells.toArray 25 (0,0)))=>load_note hn h)
 have HLC:=hid (λ(u:World) (nb:Nat) (h:u.heap[nb]? = some (.cells n.cells.toArray 25 (0,0)))=>(note_cell hn h).2.2.2)
 have HEQ:=hid (show str (Cn.head n) ++ str (Wm.enc n.text.size ++ n.text.data.toList) = Cn.packed n by rw [str_append,Cn.packed,if_pos hr]; rfl)
 have z0:(str (Cn.head n)).size<=56:=by rw [str_size]; exact Cn.head_length hn
 have z1:(str (Wm.enc n.text.size ++ n.text.data.toList)).size<=1048:=by
  have:=Wm.enc_length_le n.text.size;rw [str_size,List.length_append];simp
  omega
 obtain⟨ND,hND⟩:∃ x,x = n.cells.toArray:=⟨_,rfl⟩;rw [<- hND] at HHD HLN HLC |-;generalize Cn.packed n = res at HEQ |-;generalize str (Cn.head n) = e0 at HHD HEQ z0;generalize str (Wm.enc n.text.size ++ n.text.data.toList) = e1 at HTX HEQ z1;generalize n.text = tx at HTX HLC;clear hn hr hND htz
 go_enter Tryz.func14,Tryz.ntmps14
 go_upto_region 0 with fail
 refine wp_region_lit ?_;iterate 2 (refine wW λK hK=>?_;go_simp;apply hK;clear hK K)
 have kn:Kept w.heap.size w.heap.size w (w.alloc (.cells ND 25)):=(Kept.refl _ _ _).alloc (Nat.le_refl _) _
 have rn:=heap_new w (.cells ND 25)
 generalize w.alloc (.cells ND 25) = w1 at kn rn |-
 obtain⟨nb,hnb⟩:∃ x,x = w.heap.size:=⟨_,rfl⟩;rw [<- hnb] at rn
 (try rw [<- hnb])
 have HNB:=hid (show nb < w1.heap.size from lt_of_block rn);have RN:=hid rn;have K1:=hid kn;clear kn rn hnb;have KD:Kept w1.heap.size w1.heap.size w1 w1.drew:=(Kept.refl _ _ _).drew
 go_upto_region 1 with fail
 refine wp_region_noPanic ?_;refine wp_region_held_drew (S:=λw'=>Kept w1.heap.size w1.heap.size w1 w') (by kernel_rfl) (KD) (λhH=>?_)
 refine tkA (i:=0) 3 (.agg ND) rfl (yieldsIf_load_known (by kernel_rfl) 25 _ rfl (nb) (0) rfl (.agg ND) (λx k=>HLN.out x nb (row_kept RN.out k))) hH ?_
 simp only [sA,sB,sC];refine tkE (i:=2) 5 rfl hH ?_
 apply Exists.intro;apply And.intro
 ·intro w9 _
  go_simp
  first | done | rfl
 simp only [sA,sB,sC];refine tkA (i:=3) 6 (.string tx) rfl (yieldsIf_load_known (by kernel_rfl) 9 _ rfl (nb) (35) rfl (.string tx) (λx k=>load_strC14 (HLC.out x nb (row_kept RN.out k)))) hH ?_
 simp only [sA,sB,sC];refine wpAnyH_ready (rs:=[1]) (by kernel_rfl) (by simp) ?_
 refine AllReadyH.cons rfl (λK hK=>?_) AllReadyH.nil
 rw [if_pos (by rfl)]
 go_simp
 go_wp2_with (go_at_call 35; refine(HHD.out _).mono ?_; rintro e x1 ⟨rfl,kx1⟩)
 have X1:Kept w1.heap.size w1.heap.size w1 x1:=KD.trans (kx1.mono KD.size (λi hi _=>Nat.ne_of_lt (Nat.lt_of_lt_of_le hi KD.size)))
 refine hK.out _ _ (X1) (λhH=>?_)
 clear hK K;refine wpAnyH_ready (rs:=[4]) (by kernel_rfl) (by simp) ?_
 refine AllReadyH.cons rfl (λK hK=>?_) AllReadyH.nil
 rw [if_pos (by rfl)]
 go_simp
 go_wp2_with (go_at_call 36; refine(HTX.out _).mono ?_; rintro e x2 ⟨rfl,kx2⟩)
 have X2:Kept w1.heap.size w1.heap.size w1 x2:=X1.trans (kx2.mono X1.size (λi hi _=>Nat.ne_of_lt (Nat.lt_of_lt_of_le hi X1.size)))
 refine hK.out _ _ (X2) (λhH=>?_)
 clear hK K;refine tkA (i:=5) 8 (.string (e0 ++ e1)) rfl (.inl ⟨by kernel_rfl,λw9 h9=>by go_simp; first | done | rfl | omega⟩) hH ?_
 simp only [sA,sB,sC];refine tkE (i:=6) 2 rfl hH ?_
 apply Exists.intro;apply And.intro
 ·intro w9 _
  go_simp
  first | done | rfl
 simp only [sA,sB,sC];refine wpAnyH_done (by kernel_rfl) ?_ _
 refine NoPanic.normal ?_;go_wp2;go_ret;exact⟨by rw [<- HEQ.out]; rfl,K1.out.onto X2⟩
end Go.Proofs.YtnlbgggnpoeleaaGreatDoor
