/-
 Pu; ChgText; ChgRefText: several texts in one.
-/
import Derived.Test.YtinebhdilnndaaaGreatDoorGV
import Derived.Test.YtinebhdilnndaaaGreatDoorChgRight
set_option maxRecDepth 100000
set_option maxHeartbeats 6400000
namespace Go.Proofs.YtinebhdilnndaaaGreatDoor
open Go.RowKit
structure Pu (w0:World) (base b:Nat) (s:List UInt8) (w:World):Prop where
 wr:Wr w base b (some s)
 tab:Tab w
 kp:Kept base b w0 w
 fr:Fr b w0 w
 pos:0 < b
section
variable {w0 w w1:World} {base b:Nat} {s:List UInt8}
theorem Pu.start (h:Wr w base b (some s))(ht:Tab w)(hb:0 < b):Pu w base b s w:=⟨h,ht,Kept.refl _ _ _,Fr.refl _ _,hb⟩
theorem Pu.kept (h:Pu w0 base b s w)(k:Kept w.heap.size w.heap.size w w1):Pu w0 base b s w1:=by
 have hlt:=h.wr.lt;have hle:=h.wr.le;refine⟨h.wr.same k.size (k.block b (by omega) (by omega)) (λi _ hi=>k.block i hi (by omega)),h.tab.same (k.block 0 h.tab.lt (Nat.ne_of_lt h.tab.lt)),h.kp.trans (k.mono hle (λi hi _=>by omega)),λi o h1 h2 h3=>?_,h.pos⟩
 have h4:=h.fr i o h1 h2 h3;exact rk h4 k
theorem Pu.box (h:Pu w0 base b s w){lb:Nat}{cs:Array Value}{t:TypeId}(hb:w0.heap[lb]? = some (.cells cs t (0,0)))(hne:lb≠b)(ht:t≠5):w.heap[lb]? = some (.cells cs t (0,0)):=
 h.fr lb _ hb hne (λ_ _ e=>by injection e with _ e2; exact ht e2)
theorem wrv_of (h:Wr w base b (some s)):WrV w base b (.pointer (some ⟨b,0,none⟩)) (some s):=.inr ⟨rfl,h⟩
theorem wr_of {st:Option (List UInt8)}(h:WrV w base b (.pointer (some ⟨b,0,none⟩)) st):Wr w base b st:=by
 rcases h with ⟨h1,_⟩ | ⟨_,h2⟩
 ·cases h1
 ·exact h2
theorem Pu.next (h:Pu w0 base b s w){s1:List UInt8}(h1:Wr w1 base b (some s1))(k:Kept base b w w1)(f:Fr b w w1):Pu w0 base b s1 w1:=
 ⟨h1,h.tab.kept k (Nat.lt_of_lt_of_le h.pos (Nat.le_of_lt h.wr.lt)) h.pos,h.kp.trans k,h.fr.trans f,h.pos⟩
theorem short_of (hs:s.length<=100000):Short (some s) 800000000:=λl hl=>by
 cases hl
 exact Nat.le_trans hs (by decide)
theorem Pu.numL (h:Pu w0 base b s w)(n:Nat)(hn:n<=4611686018427387903)(hs:s.length<=100000):Calls Tryz.prog 77 #[.pointer (some ⟨b,0,none⟩),.int .i64 (n:Int)] w λe w'=>e = .returned (.tuple #[])/\Pu w0 base b (s ++ Wm.enc n) w':=by
 refine(wnum_f base b _ (some s) (n:Int) w (wrv_of h.wr) h.tab (short_of hs)).mono ?_;rintro e w' ⟨rfl,h1,k,f⟩;rw [pNum,if_pos (by omega),Int.toNat_natCast] at h1
 exact⟨rfl,h.next (wr_of h1) k f⟩
theorem Pu.hash (h:Pu w0 base b s w)(x:List UInt8)(hx:x.length = 32)(hs:s.length<=100000):Calls Tryz.prog 76 #[.pointer (some ⟨b,0,none⟩),.agg (bcells x).toArray] w λe w'=>e = .returned (.tuple #[])/\Pu w0 base b (s ++ x) w':=by
 refine(whash_f base b _ (some s) x hx w (wrv_of h.wr) (short_of hs)).mono ?_;rintro e w' ⟨rfl,h1,k,f⟩;exact⟨rfl,h.next (wr_of h1) k f⟩
end
end Go.Proofs.YtinebhdilnndaaaGreatDoor
namespace Go.Proofs.YtinebhdilnndaaaGreatDoor
open Go.RowKit Go.Lib
open List renaming setIfInBounds_toArray -> sA, set_cons_zero -> sB, set_cons_succ -> sC
open BigFrame renaming wpList_want -> wQ
theorem textof_calls (p:Cg)(hp:p.Ok)(hr:Cm.right p = true)(w:World)(htab:Tab w):Calls Tryz.prog 49 #[.agg p.cells.toArray] w λe w'=>e = .returned (.string (str (Cm.text p)))/\Kept w.heap.size w.heap.size w w':=by
 obtain⟨⟨d0,d1,q0,q1⟩,⟨⟨a0,a1⟩,n0,n1⟩,hk⟩:=Cm.right_iff.1 hr;obtain⟨k0,k3⟩:=Cm.kind_le hk;obtain⟨dn,hdn⟩:∃ dn:Nat,p.depth = (dn:Int):=⟨p.depth.toNat,by omega⟩
 obtain⟨an,han⟩:∃ an:Nat,p.author = (an:Int):=⟨p.author.toNat,by omega⟩
 obtain⟨sn,hsn⟩:∃ sn:Nat,p.seq = (sn:Int):=⟨p.seq.toNat,by omega⟩
 obtain⟨kn,hkn⟩:∃ kn:Nat,p.kind = (kn:Int):=⟨p.kind.toNat,by omega⟩
 obtain⟨nn,hnn⟩:∃ nn:Nat,p.name = (nn:Int):=⟨p.name.toNat,by omega⟩
 have bd:dn<=4611686018427387903:=by omega
 have ba:an<=4611686018427387903:=by omega
 have bs:sn<=4611686018427387903:=by omega
 have bk:kn<=4611686018427387903:=by omega
 have bn:nn<=4611686018427387903:=by omega
 have HTX:Hid (Cm.text p = p.epoch ++ (Wm.enc dn ++ (Wm.enc an ++ (Wm.enc sn ++ (Wm.enc kn ++ (Wm.enc nn ++ p.pub)))))):=hid (by rw [Cm.text,hdn,han,hsn,hkn,hnn]; rfl)
 obtain⟨s1,h1⟩:∃ s1,s1 = p.epoch:=⟨_,rfl⟩;obtain⟨s2,h2⟩:∃ s2,s2 = s1 ++ Wm.enc dn:=⟨_,rfl⟩;obtain⟨s3,h3⟩:∃ s3,s3 = s2 ++ Wm.enc an:=⟨_,rfl⟩;obtain⟨s4,h4⟩:∃ s4,s4 = s3 ++ Wm.enc sn:=⟨_,rfl⟩;obtain⟨s5,h5⟩:∃ s5,s5 = s4 ++ Wm.enc kn:=⟨_,rfl⟩;obtain⟨s6,h6⟩:∃ s6,s6 = s5 ++ Wm.enc nn:=⟨_,rfl⟩;obtain⟨s7,h7⟩:∃ s7,s7 = s6 ++ p.pub:=⟨_,rfl⟩;have HFIN:Hid (Cm.text p = s7):=hid (by rw [HTX.out,h7,h6,h5,h4,h3,h2,h1]; simp only [List.append_assoc])
 have l1:s1.length = 32:=by rw [h1]; exact hp.1
 have e2:=Wm.enc_length_le dn;have e3:=Wm.enc_length_le an;have e4:=Wm.enc_length_le sn;have e5:=Wm.enc_length_le kn;have e6:=Wm.enc_length_le nn;have l2:s2.length<=1000:=by rw [h2,List.length_append]; omega
 have l2':s2.length<=40:=by rw [h2,List.length_append]; omega
 have l3':s3.length<=48:=by rw [h3,List.length_append]; omega
 have l4':s4.length<=56:=by rw [h4,List.length_append]; omega
 have l5':s5.length<=64:=by rw [h5,List.length_append]; omega
 have l6':s6.length<=72:=by rw [h6,List.length_append]; omega
 have HL1:=hid (show s1.length<=100000 by omega)
 have HL2:=hid (show s2.length<=100000 by omega)
 have HL3:=hid (show s3.length<=100000 by omega)
 have HL4:=hid (show s4.length<=100000 by omega)
 have HL5:=hid (show s5.length<=100000 by omega)
 have HL6:=hid (show s6.length<=100000 by omega)
 have HB:=hid (And.intro bd (And.intro ba (And.intro bs (And.intro bk bn))));have H1:=hid h1;have H2:=hid h2;have H3:=hid h3;have H4:=hid h4;have H5:=hid h5;have H6:=hid h6;have H7:=hid h7;have HE:=hid hp.1;have HP:=hid hp.2.1;have R0:=heap_new w (.cells p.cells.toArray 46)
 have k0':Kept w.heap.size w.heap.size w (w.alloc (.cells p.cells.toArray 46)):=(Kept.refl _ _ _).alloc (Nat.le_refl _) _
 have hca:∀ (x:World) (b:Nat),x.heap[b]? = some (.cells p.cells.toArray 46 (0,0))->(x.cell? ⟨b,32,none⟩ = some (.int .i64 (dn:Int))/\x.cell? ⟨b,33,none⟩ = some (.int .i64 (an:Int))/\x.cell? ⟨b,34,none⟩ = some (.int .i64 (sn:Int))/\x.cell? ⟨b,35,none⟩ = some (.int .i64 (kn:Int))/\x.cell? ⟨b,36,none⟩ = some (.int .i64 (nn:Int)))/\(loadVar 30 ⟨b,0,none⟩).run Tryz.prog x = .ok (.agg (bcells p.epoch).toArray) x/\(loadVar 30 ⟨b,37,none⟩).run Tryz.prog x = .ok (.agg (bcells p.pub).toArray) x:=λx b h=>⟨⟨hdn ▸ cg_depth h hp,han ▸ cg_author h hp,hsn ▸ cg_seq h hp,hkn ▸ chg_kind (cg_chg h hp),hnn ▸ chg_name (cg_chg h hp)⟩,load_hash (cg_epoch h) hp.1,load_hash (chg_pub (cg_chg h hp)) hp.2.1⟩
 have HCA:=hid hca;obtain⟨D,hD⟩:∃ D,D = p.cells.toArray:=⟨_,rfl⟩;rw [<- hD] at R0 k0' HCA |-;clear hca hD d0 d1 q0 q1 a0 a1 n0 n1 hk k0 k3 hdn han hsn hkn hnn bd ba bs bk bn h1 h2 h3 h4 h5 h6 h7 l1 l2 l2' l3' l4' l5' l6' e2 e3 e4 e5 e6 hr hp HTX;have hw0:=htab.lt
 go_enter Tryz.func49,Tryz.ntmps49
 go_upto_region 1 with fail
 generalize w.alloc (.cells D 46) = w2 at R0 k0' |-
 obtain⟨pb,hpb⟩:∃ pb,pb = w.heap.size:=⟨_,rfl⟩;have HPB:=hid (show w.heap.size<=pb by omega)
 rw [<- hpb] at R0
 (try rw [<- hpb])
 have K2:=hid k0';have R2:=hid R0;have HTAB:=hid (htab.kept K2.out hw0 hw0);have HWS:=hid K2.out.size;clear hpb R0 k0';refine wp_region_lit ?_;refine wW λK hK=>?_;go_simp;go_at_call 75
 refine(new_calls w2).mono ?_;rintro e w3 ⟨rfl,wr3,k3,s3⟩;apply hK;clear hK K;obtain⟨wb,hwb⟩:∃ wb,wb = w2.heap.size:=⟨_,rfl⟩;have hpos:0 < w2.heap.size:=HTAB.out.lt;have tab3:=HTAB.out.kept k3 hpos hpos;have U3:=hid (Pu.start (base:=w2.heap.size + 1) (b:=w2.heap.size) (s:=[]) wr3 tab3 hpos);have K3:=hid (K2.out.onto k3);have R3:=hid (rk R2.out k3);obtain⟨base,hbase⟩:∃ base,base = w2.heap.size + 1:=⟨_,rfl⟩;have HBT:=hid (show pb < base/\pb≠wb by have:=lt_of_block R2.out; omega)
 have HBW:=hid (show ∀ g,g < w.heap.size->g < base/\g≠wb from λg hg=>by have:=HWS.out; omega)
 rw [<- hwb] at U3 hbase;rw [<- hbase] at U3;rw [<- hwb];have HTT:=hid (λ(t:List UInt8) (x:World) (u:Pu w3 base wb t x)=>HCA.out x pb ((u.kp.block pb HBT.out.1 HBT.out.2).trans R3.out))
 have HKW:=hid (λ(t:List UInt8) (x:World) (u:Pu w3 base wb t x)=>(show Kept w.heap.size w.heap.size w x from K3.out.trans (u.kp.mono (by have:=HBT.out; have:=HPB.out; omega) (λi hi _=>(HBW.out i hi).2))))
 clear wr3 k3 s3 tab3 hwb hbase R2 K2 HTAB hpos htab hw0;refine wW λK hK=>?_;go_simp;apply hK;clear hK K
 go_upto_region 2 with fail
 refine wp_region_lit ?_;iterate 2 (refine wW λK hK=>?_;go_simp;apply hK;clear hK K)
 refine wLk 30 (.tmp 8) rfl (pb) (0) rfl (.agg (bcells p.epoch).toArray) ((HTT.out _ _ U3.out).2.1) ?_
 simp only [Act.put,sA,sB,sC];refine wW λK hK=>?_;go_simp;go_at_call 76
 refine(U3.out.hash p.epoch HE.out (Nat.zero_le _)).mono ?_;rintro e w4 ⟨rfl,u4⟩;have U4:Hid (Pu w3 base wb s1 w4):=hid (by rw [H1.out]; exact u4)
 clear u4;apply hK;clear hK K
 go_upto_region 3 with fail
 refine wp_region_lit ?_;iterate 2 (refine wW λK hK=>?_;go_simp;apply hK;clear hK K)
 refine wLk 3 (.tmp 12) rfl (pb) (32) rfl (.int .i64 (dn:Int)) (load_int10 ((HTT.out _ _ U4.out).1.1)) ?_
 simp only [Act.put,sA,sB,sC];refine wW λK hK=>?_;go_simp;go_at_call 77
 refine(U4.out.numL dn HB.out.1 HL1.out).mono ?_;rintro e w5 ⟨rfl,u5⟩;have U5:Hid (Pu w3 base wb s2 w5):=hid (by rw [H2.out]; exact u5)
 clear u5;apply hK;clear hK K
 go_upto_region 4 with fail
 refine wp_region_lit ?_;iterate 2 (refine wW λK hK=>?_;go_simp;apply hK;clear hK K)
 refine wLk 3 (.tmp 16) rfl (pb) (33) rfl (.int .i64 (an:Int)) (load_int10 ((HTT.out _ _ U5.out).1.2.1)) ?_
 simp only [Act.put,sA,sB,sC];refine wW λK hK=>?_;go_simp;go_at_call 77
 refine(U5.out.numL an HB.out.2.1 HL2.out).mono ?_;rintro e w6 ⟨rfl,u6⟩;have U6:Hid (Pu w3 base wb s3 w6):=hid (by rw [H3.out]; exact u6)
 clear u6;apply hK;clear hK K
 go_upto_region 5 with fail
 refine wp_region_lit ?_;iterate 2 (refine wW λK hK=>?_;go_simp;apply hK;clear hK K)
 refine wLk 3 (.tmp 20) rfl (pb) (34) rfl (.int .i64 (sn:Int)) (load_int10 ((HTT.out _ _ U6.out).1.2.2.1)) ?_
 simp only [Act.put,sA,sB,sC];refine wW λK hK=>?_;go_simp;go_at_call 77
 refine(U6.out.numL sn HB.out.2.2.1 HL3.out).mono ?_;rintro e w7 ⟨rfl,u7⟩;have U7:Hid (Pu w3 base wb s4 w7):=hid (by rw [H4.out]; exact u7)
 clear u7;apply hK;clear hK K
 go_upto_region 6 with fail
 refine wp_region_lit ?_;iterate 3 (refine wW λK hK=>?_;go_simp;apply hK;clear hK K)
 refine wLk 3 (.tmp 25) rfl (pb) (35) rfl (.int .i64 (kn:Int)) (load_int10 ((HTT.out _ _ U7.out).1.2.2.2.1)) ?_
 simp only [Act.put,sA,sB,sC];refine wW λK hK=>?_;go_simp;go_at_call 77
 refine(U7.out.numL kn HB.out.2.2.2.1 HL4.out).mono ?_;rintro e w8 ⟨rfl,u8⟩;have U8:Hid (Pu w3 base wb s5 w8):=hid (by rw [H5.out]; exact u8)
 clear u8;apply hK;clear hK K
 go_upto_region 7 with fail
 refine wp_region_lit ?_;iterate 3 (refine wW λK hK=>?_;go_simp;apply hK;clear hK K)
 refine wLk 3 (.tmp 30) rfl (pb) (36) rfl (.int .i64 (nn:Int)) (load_int10 ((HTT.out _ _ U8.out).1.2.2.2.2)) ?_
 simp only [Act.put,sA,sB,sC];refine wW λK hK=>?_;go_simp;go_at_call 77
 refine(U8.out.numL nn HB.out.2.2.2.2 HL5.out).mono ?_;rintro e w9 ⟨rfl,u9⟩;have U9:Hid (Pu w3 base wb s6 w9):=hid (by rw [H6.out]; exact u9)
 clear u9;apply hK;clear hK K
 go_upto_region 8 with fail
 refine wp_region_lit ?_;iterate 3 (refine wW λK hK=>?_;go_simp;apply hK;clear hK K)
 refine wLk 30 (.tmp 35) rfl (pb) (37) rfl (.agg (bcells p.pub).toArray) ((HTT.out _ _ U9.out).2.2) ?_
 simp only [Act.put,sA,sB,sC];refine wW λK hK=>?_;go_simp;go_at_call 76
 refine(U9.out.hash p.pub HP.out HL6.out).mono ?_;rintro e w10 ⟨rfl,u10⟩;have U10:Hid (Pu w3 base wb s7 w10):=hid (by rw [H7.out]; exact u10)
 clear u10;apply hK;clear hK K;have HEN:=hid (wend_ok _ _ _ _ U10.out.wr)
 go_wp2_with (go_at_call 78; refine HEN.out.mono ?_; rintro e w99 ⟨rfl,rfl⟩)
 go_ret;rw [HFIN.out];exact⟨rfl,HKW.out _ _ U10.out⟩
end Go.Proofs.YtinebhdilnndaaaGreatDoor
