/-
 TreeSaid; TreeRefSaid; TreePathMath; TreeParBuild; TreeKeys; TreePathNo: several texts in one.
-/
import Derived.Test.YtaobiofngnfdiaaGreatDoorHI
import Derived.Test.YtaobiofngnfdiaaGreatDoorGD
import Derived.Test.YtaobiofngnfdiaaGreatDoorHD
import Derived.Test.YtaobiofngnfdiaaGreatDoorHF
import Derived.Test.YtaobiofngnfdiaaGreatDoorTreeJoin
import Derived.Test.YtaobiofngnfdiaaGreatDoorGY
import Derived.Test.YtaobiofngnfdiaaGreatDoorGX
import Derived.Test.YtaobiofngnfdiaaGreatDoorKA
import Derived.Test.YtaobiofngnfdiaaGreatDoorKD
import Derived.Test.YtaobiofngnfdiaaGreatDoorHK
import Derived.Test.YtaobiofngnfdiaaGreatDoorTreeBlank
import Derived.Test.YtaobiofngnfdiaaGreatDoorHA
import Derived.Great.BuildSlice
set_option maxRecDepth 100000
set_option maxHeartbeats 6400000
namespace Go.Proofs.YtaobiofngnfdiaaGreatDoor
open Go.RowKit Go.Lib
open List renaming setIfInBounds_toArray → sA, set_cons_zero → sB, set_cons_succ → sC
open BigFrame renaming wpList_want → wQ
namespace Tt
def aboveB:List UInt8:=[97,98,111,118,101]
def saidOf (k s h:List UInt8):List UInt8:=Sm.sum (aboveB ++ k ++ s ++ h)
theorem saidOf_len (k s h:List UInt8):(saidOf k s h).length = 32:=sum_len32 _
end Tt
theorem conv_hash8 {w:World}{b:Nat}{l:List UInt8}(hl:l.length = 32){t:TypeId}{fr:Nat × Nat}(h:w.heap[b]? = some (.cells (bcells l).toArray t fr)):(convert 96 9 (.slice (some ⟨b,0,none⟩) 32 32)).run Tryz.prog w = .ok (.string (str l)) w:=by
 have:=run_convert_bytes_back (P:=Tryz.prog) w 96 9 5 ⟨b,0,none⟩ 32 l Tryz.underlying96 Tryz.underlying5 Tryz.underlying9 (fun j hj=>by rw [Addr.add_lit,Nat.zero_add]; simp [World.cell?,h,bcells,hj])
 rwa [hl] at this
theorem sum_quad (a b c d:List UInt8)(blk:Nat)(u:World)(s1 s2 s3 s4:ByteArray)(h1:s1 = str a)(h2:s2 = str b)(h3:s3 = str c)(h4:s4 = str d)(h:u.heap[blk]? = some (.cells #[.string s1,.string s2,.string s3,.string s4] 9 (0,0)))(hl:a.length + b.length + c.length + d.length≤1000000):
  Calls Tryz.prog 58 #[.slice (some ⟨blk,0,none⟩) 4 4] u fun e w'=>e = .returned (.agg (bcells (Sm.sum (a ++ b ++ c ++ d))).toArray)∧Kept u.heap.size u.heap.size u w':=by
 subst h1 h2 h3 h4;have hj:joined [str a,str b,str c,str d] [str a,str b,str c,str d].length = a ++ b ++ c ++ d:=by simp [joined,str]
 have:=sum_calls [str a,str b,str c,str d] (some ⟨blk,0,none⟩) 4 blk 0 u (hid (by show 4 < _; decide)) (hid (by rw [hj,List.length_append,List.length_append,List.length_append]; omega)) (fun j hj=>by
  refine⟨rfl,lt_of_block h,?_⟩;have hj':j = 0∨j = 1∨j = 2∨j = 3:=by simp at hj; omega
  rcases hj' with rfl | rfl | rfl | rfl
  ·simp [World.cell?,h]
  ·simp [World.cell?,h]
  ·simp [World.cell?,h]
  ·simp [World.cell?,h])
 rw [hj] at this;exact this
theorem saidbelow_calls (k s h:List UInt8)(hk:k.length = 32)(hs:s.length = 32)(hh:h.length = 32)(w:World):
  Calls Tryz.prog 38 #[.agg (bcells k).toArray,.agg (bcells s).toArray,.agg (bcells h).toArray] w fun e w'=>e = .returned (.agg (bcells (Tt.saidOf k s h)).toArray)∧Kept w.heap.size w.heap.size w w':=by
 obtain⟨kc,hkc⟩:∃ kc,kc = (bcells k).toArray:=⟨_,rfl⟩;obtain⟨sc,hsc⟩:∃ sc,sc = (bcells s).toArray:=⟨_,rfl⟩;obtain⟨hc,hhc⟩:∃ hc,hc = (bcells h).toArray:=⟨_,rfl⟩;obtain⟨cu,hcu⟩:∃ cu,cu = (bcells (Tt.saidOf k s h)).toArray:=⟨_,rfl⟩;obtain⟨tk,htk⟩:∃ tk,tk = str k:=⟨_,rfl⟩;obtain⟨ts,hts⟩:∃ ts,ts = str s:=⟨_,rfl⟩;obtain⟨th,hth⟩:∃ th,th = str h:=⟨_,rfl⟩;have HCA:=hid (fun(b:Nat) (x:World) (e:x.heap[b]? = some (.cells kc 35 (0,0)))=>conv_hash8 (b:=b) hk (by rw [← hkc]; exact e))
 have HCB:=hid (fun(b:Nat) (x:World) (e:x.heap[b]? = some (.cells sc 35 (0,0)))=>conv_hash8 (b:=b) hs (by rw [← hsc]; exact e))
 have HCC:=hid (fun(b:Nat) (x:World) (e:x.heap[b]? = some (.cells hc 35 (0,0)))=>conv_hash8 (b:=b) hh (by rw [← hhc]; exact e))
 rw [← htk] at HCA;rw [← hts] at HCB;rw [← hth] at HCC;have HSUM:=hid (fun(blk:Nat) (u:World) e=>sum_quad Tt.aboveB k s h blk u ⟨#[97,98,111,118,101]⟩ tk ts th rfl htk hts hth e (by rw [hk,hs,hh]; decide))
 rw [show Sm.sum (Tt.aboveB ++ k ++ s ++ h) = Tt.saidOf k s h from rfl,← hcu] at HSUM;have HCS:=hid (show cu.size = 32 by rw [hcu,List.size_toArray,bcells_length,Tt.saidOf_len])
 have HALL:=hid (show cu.all (·.oneCell') = true by rw [hcu]; exact bcells_all _)
 rw [← hkc,← hsc,← hhc,← hcu];clear hkc hsc hhc hcu htk hts hth hk hs hh
 go_enter Tryz.func38,Tryz.ntmps38
 go_upto_region 1 with fail
 rw [zeros32_eq];have kwa:=kA w (.cells kc 35)
 have rwa:=heap_new w (.cells kc 35)
 have swa:(w.alloc (.cells kc 35)).heap.size = w.heap.size + 1:=by simp
 generalize w.alloc (.cells kc 35) = wa at kwa rwa swa ⊢
 have kwb:=kA wa (.cells sc 35)
 have rwb:=heap_new wa (.cells sc 35)
 have swb:(wa.alloc (.cells sc 35)).heap.size = wa.heap.size + 1:=by simp
 have rwa:=rk rwa kwb;generalize wa.alloc (.cells sc 35) = wb at kwb rwb swb rwa ⊢
 have kwc:=kA wb (.cells hc 35)
 have rwc:=heap_new wb (.cells hc 35)
 have swc:(wb.alloc (.cells hc 35)).heap.size = wb.heap.size + 1:=by simp
 have rwa:=rk rwa kwc;have rwb:=rk rwb kwc;generalize wb.alloc (.cells hc 35) = wc at kwc rwc swc rwa rwb ⊢
 have kw1:=kA wc (.cells zeros32 35)
 have rw1:=heap_new wc (.cells zeros32 35)
 have sw1:(wc.alloc (.cells zeros32 35)).heap.size = wc.heap.size + 1:=by simp
 have rwa:=rk rwa kw1;have rwb:=rk rwb kw1;have rwc:=rk rwc kw1;generalize wc.alloc (.cells zeros32 35) = w1 at kw1 rw1 sw1 rwa rwb rwc ⊢
 have K1:=hid (((kwa.next1 kwb).next1 kwc).next1 kw1);rw [swa] at rwb swb;rw [swb] at rwc swc;rw [swc] at rw1
 (try rw [swa])
 (try rw [swb])
 (try rw [swc])
 obtain⟨ab,hab⟩:∃ ab,ab = w.heap.size:=⟨_,rfl⟩;have HRB:=hid (show ¬ ab + 1 + 1 + 1 < w.heap.size by omega)
 rw [← hab] at rwa rwb rwc rw1
 (try rw [← hab])
 have RA:=hid rwa;have RB:=hid rwb;have RC:=hid rwc;have R1:=hid rw1;obtain⟨rb,hrb⟩:∃ rb,rb = ab + 1 + 1 + 1:=⟨_,rfl⟩;rw [← hrb] at R1 HRB
 (try rw [← hrb])
 clear rwa rwb rwc rw1 kwa kwb kwc kw1 swa swb swc sw1 hrb hab;refine wp_region_noPanic ?_;obtain⟨wd,hwd⟩:∃ wd,wd = w1.drew:=⟨_,rfl⟩;have hkd:Kept w1.heap.size w1.heap.size w1 wd:=by rw [hwd]; exact(Kept.refl _ _ _).drew
 have HXA:=hid (fun(u:World) (k:Kept w1.heap.size w1.heap.size w1 u)=>HCA.out _ u (rk RA.out k))
 have HXB:=hid (fun(u:World) (k:Kept w1.heap.size w1.heap.size w1 u)=>HCB.out _ u (rk RB.out k))
 have HXC:=hid (fun(u:World) (k:Kept w1.heap.size w1.heap.size w1 u)=>HCC.out _ u (rk RC.out k))
 refine wp_region_heldTo 8 (S:=fun w'=>Kept w1.heap.size w1.heap.size w1 w') (by kernel_rfl) (by rw [← hwd]; exact hkd) (fun hH=>?_)
 rw [← hwd] at hH ⊢;clear hwd;refine heldTo_take (i:=0) 7 (.slice (some ⟨ab,0,none⟩) 32 32) rfl rfl (by kernel_rfl) (by kernel_rfl) (by kernel_rfl) (by kernel_rfl) (fun _ _ _ h=>h) (.inl ⟨by kernel_rfl,fun w9 _=>by go_simp; first | done | rfl⟩) hH ?_
 simp only [sA,sB,sC];refine heldTo_take (i:=1) 8 (.string tk) rfl rfl (by kernel_rfl) (by kernel_rfl) (by kernel_rfl) (by kernel_rfl) (fun _ _ _ h=>h) (.inl ⟨by kernel_rfl,fun w9 h9=>by have cv:=HXA.out w9 h9; go_simp; first | done | rfl⟩) hH ?_
 simp only [sA,sB,sC];refine heldTo_take (i:=2) 9 (.slice (some ⟨ab + 1,0,none⟩) 32 32) rfl rfl (by kernel_rfl) (by kernel_rfl) (by kernel_rfl) (by kernel_rfl) (fun _ _ _ h=>h) (.inl ⟨by kernel_rfl,fun w9 _=>by go_simp; first | done | rfl⟩) hH ?_
 simp only [sA,sB,sC];refine heldTo_take (i:=3) 10 (.string ts) rfl rfl (by kernel_rfl) (by kernel_rfl) (by kernel_rfl) (by kernel_rfl) (fun _ _ _ h=>h) (.inl ⟨by kernel_rfl,fun w9 h9=>by have cv:=HXB.out w9 h9; go_simp; first | done | rfl⟩) hH ?_
 simp only [sA,sB,sC];refine heldTo_take (i:=4) 11 (.slice (some ⟨ab + 1 + 1,0,none⟩) 32 32) rfl rfl (by kernel_rfl) (by kernel_rfl) (by kernel_rfl) (by kernel_rfl) (fun _ _ _ h=>h) (.inl ⟨by kernel_rfl,fun w9 _=>by go_simp; first | done | rfl⟩) hH ?_
 simp only [sA,sB,sC];refine heldTo_take (i:=5) 12 (.string th) rfl rfl (by kernel_rfl) (by kernel_rfl) (by kernel_rfl) (by kernel_rfl) (fun _ _ _ h=>h) (.inl ⟨by kernel_rfl,fun w9 h9=>by have cv:=HXC.out w9 h9; go_simp; first | done | rfl⟩) hH ?_
 simp only [sA,sB,sC];refine heldTo_one (i:=6) (by kernel_rfl) rfl (fun K hK=>?_)
 rw [if_pos (by rfl)]
 go_simp;have KB:Kept w1.heap.size w1.heap.size w1 (wd.alloc (.cells #[.string ⟨#[97,98,111,118,101]⟩,.string tk,.string ts,.string th] 9)):=hkd.next1 ((Kept.refl _ _ _).alloc (Nat.le_refl _) _)
 have hb:=heap_new wd (.cells #[.string ⟨#[97,98,111,118,101]⟩,.string tk,.string ts,.string th] 9)
 refine hK.out _ _ KB (fun hH=>?_)
 clear hK K;refine heldTo_one (i:=7) (by kernel_rfl) rfl (fun K hK=>?_)
 rw [if_pos (by rfl)]
 go_simp
 go_wp2_with (go_at_call 58; refine(HSUM.out _ _ hb).mono ?_; rintro e w7 ⟨rfl,k7⟩)
 have KH:=KB.next1 k7;refine hK.out _ _ KH (fun hH=>?_)
 clear hK K;have R9:=(KH.block rb (lt_of_block R1.out) (Nat.ne_of_lt (lt_of_block R1.out))).trans R1.out;refine heldTo_last (by kernel_rfl) rfl (fun K hK=>?_)
 rw [if_pos (by rfl)]
 refine wp_store_row_none 35 _ _ rfl rfl rb cu rfl rfl 35 zeros32 R9 (info30 HCS.out) (by rw [HCS.out]; rfl) HALL.out ?_
 refine hK.out _ _ ?_;clear hK K;refine heldTo_done (by kernel_rfl) ?_ _
 refine NoPanic.normal ?_;have R10:=setRow_heap w7 rb _ cu _ _ R9;have K10:=hid ((K1.out.next1 KH).grown (grown_setRow w7 rb cu) (K1.out.next1 KH).size (fun k e=>by cases e; exact Nat.le_of_not_lt HRB.out))
 generalize w7.setRow rb cu = w10 at R10 K10 ⊢;clear hH;go_wp2;refine bodyPost_ret (results_cell_row rfl _ _ rb 35 _ (0,0) _ rfl R10 Tryz.underlying35 rfl (info30 HCS.out)) rfl ?_
 exact⟨rfl,K10.out⟩
namespace Tt
def said (ks:List (List UInt8))(H:Nat→List UInt8):Nat→Nat→List UInt8
 | 0,_=>List.replicate 32 0
 | d + 1,j=>saidOf (ks.getD j []) (said ks H d (j + 1)) (H j)
theorem said_len (ks:List (List UInt8))(H:Nat→List UInt8)(d j:Nat):(said ks H d j).length = 32:=by
 cases d with
 | zero=>rfl
 | succ d=>exact saidOf_len _ _ _
end Tt
namespace Tt
def setAll (I:List (Nat × Pr))(P:List Pr):List Pr:=I.foldl (fun Q x=>Q.set x.1 x.2) P
theorem setAll_length:∀ (I:List (Nat × Pr)) (P:List Pr),(setAll I P).length = P.length
 | [],_=>rfl
 | x :: I,P=>by
  show(setAll I (P.set x.1 x.2)).length = _;rw [setAll_length I,List.length_set]
theorem setAll_append (I J:List (Nat × Pr))(P:List Pr):setAll (I ++ J) P = setAll J (setAll I P):=List.foldl_append
theorem setAll_set (x:Nat × Pr):∀ (I:List (Nat × Pr)) (P:List Pr),Bo.memN (I.map (·.1)) x.1 = false→(setAll I P).set x.1 x.2 = setAll I (P.set x.1 x.2)
 | [],_,_=>rfl
 | y :: I,P,h=>by
  rw [Bo.memN_any,List.map_cons,List.any_cons,Bool.or_eq_false_iff] at h;have h1:y.1≠x.1:=by simpa using h.1
  show(setAll I (P.set y.1 y.2)).set x.1 x.2 = setAll I ((P.set x.1 x.2).set y.1 y.2);rw [setAll_set x I _ (by rw [Bo.memN_any]; exact h.2),List.set_comm _ _ h1]
theorem setAll_rev:∀ (I:List (Nat × Pr)) (P:List Pr),Bo.nodN (I.map (·.1)) = true→setAll I.reverse P = setAll I P
 | [],_,_=>rfl
 | x :: I,P,h=>by
  rw [List.map_cons,Bo.nodN] at h
  split at h
  ·cases h
  ·rename_i hm
   rw [List.reverse_cons,setAll_append,setAll_rev I P h];exact setAll_set x I P (Bool.eq_false_iff.2 hm)
def pitem (ws:List Int)(ks:List (List UInt8))(H:Nat→List UInt8)(i:Nat):Nat × Pr:=((ws.getD i 0).toNat / 2,⟨true,ks.getD i [],said ks H (ws.length - 1 - i) (i + 1),[]⟩)
def pitems (ws:List Int)(ks:List (List UInt8))(H:Nat→List UInt8):List (Nat × Pr):=(List.range ws.length).map (pitem ws ks H)
theorem pitems_length (ws:List Int)(ks:List (List UInt8))(H:Nat→List UInt8):(pitems ws ks H).length = ws.length:=by rw [pitems,List.length_map,List.length_range]
theorem pitems_at (ws:List Int)(ks:List (List UInt8))(H:Nat→List UInt8)(i:Nat)(hi:i < (pitems ws ks H).length):(pitems ws ks H)[i] = pitem ws ks H i:=by
 simp only [pitems,List.getElem_map,List.getElem_range]
theorem pitems_fst (ws:List Int)(ks:List (List UInt8))(H:Nat→List UInt8):(pitems ws ks H).map (·.1) = ws.map fun y=>y.toNat / 2:=by
 refine List.ext_getElem (by rw [List.length_map,List.length_map,pitems_length]) fun i h1 h2=>?_
 rw [List.length_map] at h1 h2;rw [List.getElem_map,List.getElem_map,pitems_at ws ks H i h1,pitem];show(ws.getD i 0).toNat / 2 = _;rw [List.getD_eq_getElem?_getD,List.getElem?_eq_getElem h2,Option.getD_some]
theorem pitems_nod {n a:Nat}(hn:n≤64)(ha:a < n)(ks:List (List UInt8))(H:Nat→List UInt8):Bo.nodN ((pitems (Bo.Direct (n:Int) (a:Int)) ks H).map (·.1)) = true:=by
 rw [pitems_fst];exact Bo.dir_nodup hn ha
def down (ws:List Int)(ks:List (List UInt8))(H:Nat→List UInt8)(P:List Pr)(k:Nat):List Pr:=setAll ((pitems ws ks H).drop k).reverse P
def upto (ws:List Int)(ks:List (List UInt8))(H:Nat→List UInt8)(P:List Pr)(k:Nat):List Pr:=setAll ((pitems ws ks H).take k) P
section
variable (ws:List Int) (ks:List (List UInt8)) (H:Nat→List UInt8) (P:List Pr)
theorem down_top:down ws ks H P ws.length = P:=by
 rw [down,List.drop_of_length_le (by rw [pitems_length]; exact Nat.le_refl _)]
 rfl
theorem down_next (k:Nat)(hk:k < ws.length):down ws ks H P k = (down ws ks H P (k + 1)).set (pitem ws ks H k).1 (pitem ws ks H k).2:=by
 have h:k < (pitems ws ks H).length:=by rw [pitems_length]; exact hk
 rw [down,List.drop_eq_getElem_cons h,List.reverse_cons,setAll_append,pitems_at]
 rfl
theorem down_length (k:Nat):(down ws ks H P k).length = P.length:=setAll_length _ _
theorem upto_length (k:Nat):(upto ws ks H P k).length = P.length:=setAll_length _ _
end
theorem down_upto {n a:Nat}(hn:n≤64)(ha:a < n)(ks:List (List UInt8))(H:Nat→List UInt8)(P:List Pr):down (Bo.Direct (n:Int) (a:Int)) ks H P 0 = upto (Bo.Direct (n:Int) (a:Int)) ks H P (Bo.Direct (n:Int) (a:Int)).length:=by
 rw [down,upto,List.drop_zero,List.take_of_length_le (by rw [pitems_length]; exact Nat.le_refl _)]
 exact setAll_rev _ _ (pitems_nod hn ha ks H)
def wayX (ws:List Int)(place:Int):Nat→Int
 | 0=>2 * place
 | j + 1=>ws.getD j 0
def sideH (L:List Lf)(P:List Pr)(ws:List Int)(place:Int)(j:Nat):List UInt8:=hashNode L P (Bo.Beside L.length (wayX ws place j)).toNat
def pathWay (L:List Lf)(x:Int):List Int:=Bo.Direct L.length x
def pathErr (L:List Lf)(x:Int)(kn:Nat):Int:=if none L x then 7 else if (pathWay L x).length = kn then 0 else 16
def pathL (L:List Lf)(P:List Pr)(x:Int)(pub:List UInt8)(ks:List (List UInt8)):List Lf:=
 if pathErr L x ks.length = 0 then (match L[x.toNat]? with | some l=>L.set x.toNat { l with pub:=pub,abv:=said ks (sideH L P (pathWay L x) x) (pathWay L x).length 0 } | _=>[]) else []
def pathP (L:List Lf)(P:List Pr)(x:Int)(ks:List (List UInt8)):List Pr:=
 if pathErr L x ks.length = 0 then upto (pathWay L x) ks (sideH L P (pathWay L x) x) P (pathWay L x).length else []
end Tt
theorem list32_8 {p:List UInt8→Prop}(h:∀ b0 b1 b2 b3 b4 b5 b6 b7 b8 b9 b10 b11 b12 b13 b14 b15 b16 b17 b18 b19 b20 b21 b22 b23 b24 b25 b26 b27 b28 b29 b30 b31,p [b0,b1,b2,b3,b4,b5,b6,b7,b8,b9,b10,b11,b12,b13,b14,b15,b16,b17,b18,b19,b20,b21,b22,b23,b24,b25,b26,b27,b28,b29,b30,b31]):∀ l:List UInt8,l.length = 32→p l:=fun l hl=>
 match l,hl with
 | [b0,b1,b2,b3,b4,b5,b6,b7,b8,b9,b10,b11,b12,b13,b14,b15,b16,b17,b18,b19,b20,b21,b22,b23,b24,b25,b26,b27,b28,b29,b30,b31],_=>h b0 b1 b2 b3 b4 b5 b6 b7 b8 b9 b10 b11 b12 b13 b14 b15 b16 b17 b18 b19 b20 b21 b22 b23 b24 b25 b26 b27 b28 b29 b30 b31
theorem build_parent8 (w:World)(k s:List UInt8)(hk:k.length = 32)(hs:s.length = 32):
  (Instr.build 67 #[(0,.bool true),(1,.agg (bcells k).toArray),(2,.agg (bcells s).toArray)]).run Tryz.prog w = .ok (.agg (Pr.cells ⟨true,k,s,[]⟩ (.slice none 0 0)).toArray) w:=by
 revert k
 refine list32_8 ?_;intro a0 a1 a2 a3 a4 a5 a6 a7 a8 a9 a10 a11 a12 a13 a14 a15 a16 a17 a18 a19 a20 a21 a22 a23 a24 a25 a26 a27 a28 a29 a30 a31
 revert s
 refine list32_8 ?_;intro b0 b1 b2 b3 b4 b5 b6 b7 b8 b9 b10 b11 b12 b13 b14 b15 b16 b17 b18 b19 b20 b21 b22 b23 b24 b25 b26 b27 b28 b29 b30 b31;kernel_rfl
namespace Tt
def keyN (x:UInt8)(i:Nat):List UInt8:=x :: UInt8.ofNat i :: List.replicate 30 0
def keysN (x:UInt8)(m:Nat):List (List UInt8):=(List.range m).map (keyN x)
def keysOf (x:UInt8)(m:Nat):List (List UInt8):=keysN x m ++ (if 200≤x.toNat then [keyN x 0] else [])
theorem keysN_next (x:UInt8)(m:Nat):keysN x (m + 1) = keysN x m ++ [keyN x m]:=by rw [keysN,List.range_succ,List.map_append]; rfl
theorem keysN_length (x:UInt8)(m:Nat):(keysN x m).length = m:=by rw [keysN,List.length_map,List.length_range]
end Tt
theorem build_keyN (x y:UInt8)(w:World):(Instr.build 35 #[(0,.int .u8 (x.toNat:Int)),(1,.int .u8 (y.toNat:Int))]).run Tryz.prog w = .ok (.agg (bcells (x :: y :: List.replicate 30 0)).toArray) w:=by kernel_rfl
theorem build_key0 (x:UInt8)(w:World):(Instr.build 35 #[(0,.int .u8 (x.toNat:Int))]).run Tryz.prog w = .ok (.agg (bcells (Tt.keyN x 0)).toArray) w:=by kernel_rfl
theorem ownh_shape {w:World}{base:Nat}{v:Value}{M:List (List UInt8)}(h:OwnH w base v M):∃ ad c,v = .slice ad M.length c:=by
 obtain⟨_,ad,_,_,c,hv,_⟩:=h.hs;exact⟨ad,c,hv⟩
theorem append_key {w:World}{base:Nat}{v:Value}{M:List (List UInt8)}(h:OwnH w base v M)(hb:base≤w.heap.size)(k:List UInt8)(hk:k.length = 32)(hl:M.length < 1000000):
  ∃ ad c w',(Builtin.append_ #[38,38] 38 #[v,.slice (some ⟨w.heap.size,0,none⟩) 1 1]).run Tryz.prog (w.alloc (.cells (bcells k).toArray 35)) = .ok (.slice ad (M.length + 1) c) w'∧OwnH w' base (.slice ad (M.length + 1) c) (M ++ [k])∧Kept base base w w':=by
 have hs:base≤(w.alloc (.cells (bcells k).toArray 35)).heap.size:=by simp; omega
 obtain⟨v',w',h1,h2,h3⟩:=append_hash _ base v M (h.alloc _) hs w.heap.size 1 k hk (fun j u hu=>by
  rw [cell_of_row _ w.heap.size (0 + j) _ _ _ (heap_new w _),Nat.zero_add,List.getElem?_toArray]
  exact hu) (by omega)
 obtain⟨ad,c,rfl⟩:=ownh_shape h2;rw [List.length_append] at h1 h2;exact⟨ad,c,w',h1,h2,(((Kept.refl base base w).alloc hb _).grown h3 hs (fun q hq=>(h.low q hq).1))⟩
theorem keys_calls8 (lad pad:Option Addr)(ln lc pn pc m:Nat)(x:UInt8)(place:Int)(hm:(Bo.Direct (ln:Int) place).length = m)(w:World):
  Calls Tryz.prog 21 #[.agg #[.slice lad ln lc,.slice pad pn pc],.int .i64 place,.int .u8 (x.toNat:Int)] w fun e w'=>∃ u,e = .returned u∧OwnH w' w.heap.size u (Tt.keysOf x m)∧Kept w.heap.size w.heap.size w w':=by
 have HM9:=hid (show m≤66 by rw [← hm]; exact Bo.direct_len66 _ _)
 have HRD:=hid (fun(u:World)=>(show Calls Tryz.prog 46 #[.int .i64 (ln:Int),.int .i64 place] u fun e u'=>∃ ad c,e = .returned (.slice ad m c)∧Kept u.heap.size u.heap.size u u' from(rdirect_calls (ln:Int) place u).mono fun e u' ⟨v,h1,h2,h3⟩=>by
  obtain⟨ad,c,rfl⟩:=h2.len;rw [hm] at h1
  exact⟨ad,c,h1,h3⟩))
 obtain⟨i0,z0,hi0,hz0,hzs0,hs0,hb0⟩:=hash_info;have HB1:=hid (fun(cs:Array Value) (h:cs.size = 32) (u:World)=>run_build_one (P:=Tryz.prog) u 38 35 i0 z0 Tryz.underlying38 hi0 hz0 cs (by rw [hs0]; exact h) (by rw [hs0]; decide) (by rw [hs0]; decide))
 clear hm hi0 hz0 hzs0 hs0 hb0
 go_enter Tryz.func21,Tryz.ntmps21
 go_upto_region 0 with fail
 refine wp_region_lit ?_;refine @wQ _ _ _ _ _ _ _ ?_ ?_;kernel_rfl;intro K hK;go_simp;refine hK _ _ ?_;clear hK K;have K1:=hid (kA w (.cells #[.slice lad ln lc,.slice pad pn pc] 27))
 have T1:=hid (heap_new w (.cells #[.slice lad ln lc,.slice pad pn pc] 27))
 generalize w.alloc (.cells #[.slice lad ln lc,.slice pad pn pc] 27) = w1 at K1 T1 ⊢
 obtain⟨tb,htb⟩:∃ tb,tb = w.heap.size:=⟨_,rfl⟩;rw [← htb] at T1
 (try rw [← htb])
 have HLL:=hid (fun(u:World) (k:Kept w1.heap.size w1.heap.size w1 u)=>load_slice (d:=.int .u8) (two_cell0 (row_kept T1.out k)) (.inl rfl) rfl)
 clear htb;go_wp2
 go_loopw [7,8] (fun s7 s8 wr=>∃ i:Nat,∃ v:Value,s7 = v∧s8 = .int .i64 (i:Int)∧Hid (i≤m)∧Hid (Kept w1.heap.size w1.heap.size w1 wr)∧Hid (OwnH wr w1.heap.size v (Tt.keysN x i))) (fun _ s8 _=>m - (RowKit.intOf s8).toNat)
 case atStart=>exact⟨0,_,rfl,rfl,hid (Nat.zero_le _),hid (Kept.refl _ _ _),hid (OwnH.nil _ _)⟩
 case round=>
  obtain⟨i,v,rfl,rfl,hi,HK,HO⟩:=hrel;obtain⟨vad,vc,rfl⟩:=ownh_shape HO.out;rw [Tt.keysN_length] at HO ⊢;have him:=hi.out;have hm9:=HM9.out
  by_cases hlt:i < m
  ·have hlti:(i:Int) < (m:Int):=by omega
   have HLT:=hid hlt;clear hlt
   go_upto_region 3 with fail
   refine wp_region_lit ?_;iterate 2 (refine @wQ _ _ _ _ _ _ _ ?_ ?_;kernel_rfl;intro K hK;go_simp;refine hK _ _ ?_;clear hK K)
   refine @wpList_load_known _ _ _ _ _ _ _ ?_ 24 (.tmp 10) rfl (tb) (0) rfl (.slice lad ln lc) (HLL.out _ HK.out) ?_;kernel_rfl
   simp only [Act.put,sA,sB,sC];iterate 2 (refine @wQ _ _ _ _ _ _ _ ?_ ?_;kernel_rfl;intro K hK;go_simp;refine hK _ _ ?_;clear hK K)
   refine @wQ _ _ _ _ _ _ _ ?_ ?_;kernel_rfl;intro K hK;go_simp;go_at_call 46
   refine(HRD.out _).mono ?_;rintro e w3 ⟨dad,dc,rfl,k3⟩;have K3:=hid (HK.out.onto k3);have O3:=hid (HO.out.kept k3 (Nat.le_refl _));clear k3;refine hK _ _ ?_;clear hK K;iterate 2 (refine @wQ _ _ _ _ _ _ _ ?_ ?_;kernel_rfl;intro K hK;go_simp;refine hK _ _ ?_;clear hK K)
   obtain⟨y,hy⟩:∃ y,y = UInt8.ofNat i:=⟨_,rfl⟩;have HBY:=hid (show IntKind.u8.wrap (i:Int) = (y.toNat:Int) by rw [hy,UInt8.toNat_ofNat',show IntKind.u8.wrap (i:Int) = (i:Int) % 256 by rfl]; omega)
   obtain⟨kc,hkc⟩:∃ t,t = (bcells (Tt.keyN x i)).toArray:=⟨_,rfl⟩;have HBK:=hid (fun u=>build_keyN x y u)
   rw [hy,show(bcells (x :: UInt8.ofNat i :: List.replicate 30 0)).toArray = kc from hkc.symm,← hy] at HBK;have HKZ:=hid (show kc.size = 32 by rw [hkc,List.size_toArray,bcells_length]; rfl)
   obtain⟨uad,uc,w5,hap,ho5,k5⟩:=append_key O3.out K3.out.size (Tt.keyN x i) rfl (by rw [Tt.keysN_length]; omega)
   rw [Tt.keysN_length] at hap ho5;rw [← Tt.keysN_next] at ho5;rw [← hkc] at hap;have AP5:=hid hap;have O5:=hid ho5;have K5:=hid (K3.out.trans k5);clear hap ho5 k5 hy hkc O3 K3 HO HK
   go_upto_region 5 with fail
   refine wp_region_lit ?_;iterate 4 (refine @wQ _ _ _ _ _ _ _ ?_ ?_;kernel_rfl;intro K hK;go_simp;refine hK _ _ ?_;clear hK K)
   rw [HBY.out];refine @wpL_buildN _ _ _ _ _ _ _ ?_ 35 _ rfl #[(0,.int .u8 (x.toNat:Int)),(1,.int .u8 (y.toNat:Int))] (by simp only [List.map_toArray,List.map_cons,List.map_nil]; rfl) _ (HBK.out _) ?_;kernel_rfl
   simp only [Act.put,sA,sB,sC];refine @wpL_sliceN _ _ _ _ _ _ _ _ ?_ 38 1 _ rfl #[(0,.agg kc)] (by simp only [List.map_toArray,List.map_cons,List.map_nil]; rfl) _ (HB1.out kc (HKZ.out) _) ?_;kernel_rfl
   simp only [Act.put,sA,sB,sC];refine wpList_append_known rfl (.tmp 19) (.tmp 24) 38 38 38 rfl rfl _ _ rfl rfl AP5.out ?_
   simp only [Act.put,sA,sB,sC];refine @wQ _ _ _ _ _ _ _ ?_ ?_;kernel_rfl;intro K hK;go_simp;refine hK _ _ ?_;clear hK K;go_wp2
   go_roundw
   case rel=>exact⟨i + 1,_,rfl,by go_num,hid HLT.out,K5,O5⟩
   case measure=>have:=HLT.out; simp [RowKit.intOf]; omega
  ·have hnl:¬ (i:Int) < (m:Int):=by omega
   obtain rfl:i = m:=by omega
   clear hlt hi
   go_upto_region 3 with fail
   refine wp_region_lit ?_;iterate 2 (refine @wQ _ _ _ _ _ _ _ ?_ ?_;kernel_rfl;intro K hK;go_simp;refine hK _ _ ?_;clear hK K)
   refine @wpList_load_known _ _ _ _ _ _ _ ?_ 24 (.tmp 10) rfl (tb) (0) rfl (.slice lad ln lc) (HLL.out _ HK.out) ?_;kernel_rfl
   simp only [Act.put,sA,sB,sC];iterate 2 (refine @wQ _ _ _ _ _ _ _ ?_ ?_;kernel_rfl;intro K hK;go_simp;refine hK _ _ ?_;clear hK K)
   refine @wQ _ _ _ _ _ _ _ ?_ ?_;kernel_rfl;intro K hK;go_simp;go_at_call 46
   refine(HRD.out _).mono ?_;rintro e w3 ⟨dad,dc,rfl,k3⟩;have K3:=hid (HK.out.onto k3);have O3:=hid (HO.out.kept k3 (Nat.le_refl _));clear k3;refine hK _ _ ?_;clear hK K;iterate 2 (refine @wQ _ _ _ _ _ _ _ ?_ ?_;kernel_rfl;intro K hK;go_simp;refine hK _ _ ?_;clear hK K)
   by_cases hx:200≤x.toNat
   ·have hd:decide ((x.toNat:Int)≥200) = true:=decide_eq_true (by omega)
    have HKO:=hid (show Tt.keysOf x i = Tt.keysN x i ++ [Tt.keyN x 0] by rw [Tt.keysOf,if_pos hx])
    obtain⟨kc,hkc⟩:∃ t,t = (bcells (Tt.keyN x 0)).toArray:=⟨_,rfl⟩;have HBK:=hid (fun u=>build_key0 x u)
    rw [← hkc] at HBK;have HKZ:=hid (show kc.size = 32 by rw [hkc,List.size_toArray,bcells_length]; rfl)
    obtain⟨uad,uc,w5,hap,ho5,k5⟩:=append_key O3.out K3.out.size (Tt.keyN x 0) rfl (by rw [Tt.keysN_length]; omega)
    rw [Tt.keysN_length] at hap;rw [← hkc] at hap;have AP5:=hid hap;have O5:=hid ho5;have K5:=hid (K3.out.trans k5);clear hap ho5 k5 hkc O3 K3 HO HK hx
    go_upto_region 7 with fail
    refine wp_region_lit ?_;iterate 2 (refine @wQ _ _ _ _ _ _ _ ?_ ?_;kernel_rfl;intro K hK;go_simp;refine hK _ _ ?_;clear hK K)
    refine @wpL_buildN _ _ _ _ _ _ _ ?_ 35 _ rfl #[(0,.int .u8 (x.toNat:Int))] (by simp only [List.map_toArray,List.map_cons,List.map_nil]; rfl) _ (HBK.out _) ?_;kernel_rfl
    simp only [Act.put,sA,sB,sC];refine @wpL_sliceN _ _ _ _ _ _ _ _ ?_ 38 1 _ rfl #[(0,.agg kc)] (by simp only [List.map_toArray,List.map_cons,List.map_nil]; rfl) _ (HB1.out kc (HKZ.out) _) ?_;kernel_rfl
    simp only [Act.put,sA,sB,sC];refine wpList_append_known rfl (.tmp 28) (.tmp 31) 38 38 38 rfl rfl _ _ rfl rfl AP5.out ?_
    simp only [Act.put,sA,sB,sC];refine @wQ _ _ _ _ _ _ _ ?_ ?_;kernel_rfl;intro K hK;go_simp;refine hK _ _ ?_;clear hK K;go_wp2;go_ret;refine⟨_,rfl,?_,K1.out.onto K5.out⟩;rw [HKO.out];have:=O5.out.mono (K1.out.size);rw [Tt.keysN_length] at this;exact this
   ·have hd:decide ((x.toNat:Int)≥200) = false:=decide_eq_false (by omega)
    have HKO:=hid (show Tt.keysOf x i = Tt.keysN x i by rw [Tt.keysOf,if_neg hx,List.append_nil])
    clear hx;go_wp2;go_ret;refine⟨_,rfl,?_,K1.out.onto K3.out⟩;rw [HKO.out];exact O3.out.mono (K1.out.size)
theorem path_none (lv pv:Value)(L:List Lf)(P:List Pr)(x:Int)(pub:List UInt8)(hpub:pub.length = 32)(kv:Value)(w:World)(hL:Lvs w lv L)(hP:Pts w pv P)(hn:L.length≤1000)(hp:P.length≤1000)(hpl:∀ p∈P,p.loose.length≤1000)(hlk:Tt.lacks L P x = 7):
  Calls Tryz.prog 14 #[.agg #[lv,pv],.int .i64 x,.agg (bcells pub).toArray,kv] w fun e w'=>e = .returned (.tuple #[.agg #[.slice none 0 0,.slice none 0 0],.int .i64 7])∧Kept w.heap.size w.heap.size w w':=by
 have HLK:=hid (fun(u:World) (kk:Kept w.heap.size w.heap.size w u)=>lacks_calls lv pv L P x u (hL.kept kk) (hP.kept kk) hn hp hpl)
 rw [hlk] at HLK;clear hlk;obtain⟨lad,lc,rfl⟩:=hL.shape;obtain⟨pad,pc,rfl⟩:=hP.shape;obtain⟨ln,hln⟩:∃ ln,ln = L.length:=⟨_,rfl⟩;obtain⟨pn,hpn⟩:∃ pn,pn = P.length:=⟨_,rfl⟩;rw [← hln,← hpn] at HLK ⊢;have hln9:(ln:Int)≤1000:=by omega
 have HLN:=hid hln;have HPN:=hid hpn;have HPB:=hid hpub;obtain⟨D,hD⟩:∃ D,D = (bcells pub).toArray:=⟨_,rfl⟩;have HDE:=hid hD;have hsz:D.size = 32:=by rw [hD,List.size_toArray,bcells_length,hpub]
 have HSZ:=hid hsz;have hinf:(Tryz.prog.info? 35).map (·.size) = some D.size:=by rw [hD]; exact hashInfoT (by rw [bcells_length,hpub])
 have HINF:=hid hinf;have HALL:=hid (show D.all (·.oneCell') = true by rw [hD]; exact bytesAll pub)
 rw [← hD];clear hpub hD hsz hinf;clear hL hP hn hp hpl hln hpn;have k1:=kA w (.cells #[.slice lad ln lc,.slice pad pn pc] 27)
 have t1:=heap_new w (.cells #[.slice lad ln lc,.slice pad pn pc] 27)
 have s1:(w.alloc (.cells #[.slice lad ln lc,.slice pad pn pc] 27)).heap.size = w.heap.size + 1:=by simp
 go_enter Tryz.func14,Tryz.ntmps14
 go_upto_region 1 with fail
 generalize w.alloc (.cells #[.slice lad ln lc,.slice pad pn pc] 27) = wa at k1 t1 s1 ⊢
 have k2:=kA wa (.cells D 35)
 have e2:=heap_new wa (.cells D 35)
 have s2:(wa.alloc (.cells D 35)).heap.size = wa.heap.size + 1:=by simp
 have t2:=rk t1 k2;generalize wa.alloc (.cells D 35) = wb at k2 e2 s2 t2 ⊢
 have k3:=kA wb (.cells #[.slice none 0 0,.slice none 0 0] 27)
 have r3:=heap_new wb (.cells #[.slice none 0 0,.slice none 0 0] 27)
 have s3:(wb.alloc (.cells #[.slice none 0 0,.slice none 0 0] 27)).heap.size = wb.heap.size + 1:=by simp
 have t3:=rk t2 k3;have e3:=rk e2 k3;generalize wb.alloc (.cells #[.slice none 0 0,.slice none 0 0] 27) = w1 at k3 r3 s3 t3 e3 ⊢
 have K1:=hid ((k1.next1 k2).next1 k3);rw [s2,s1] at r3 s3;rw [s1] at e3
 (try rw [s2])
 (try rw [s1])
 obtain⟨tb,htb⟩:∃ tb,tb = w.heap.size:=⟨_,rfl⟩;obtain⟨lb,hlb⟩:∃ lb,lb = w.heap.size + 1:=⟨_,rfl⟩;obtain⟨rb,hrb⟩:∃ rb,rb = w.heap.size + 1 + 1:=⟨_,rfl⟩;rw [← hrb] at r3
 (try rw [← hrb])
 rw [← hlb] at e3
 (try rw [← hlb])
 rw [← htb] at t3
 (try rw [← htb])
 have HTL:=hid (show tb≠lb by omega)
 have HTR:=hid (show tb≠rb by omega)
 have HTB:=hid (show ¬ tb < w.heap.size by omega)
 have HRB:=hid (show ¬ rb < w.heap.size by omega)
 have HWS:=hid (show w.heap.size≤w1.heap.size by omega)
 have T1:=hid t3;have R1:=hid r3;have E1:=hid e3;clear k1 t1 s1 k2 e2 s2 t2 k3 r3 s3 t3 e3 htb hlb hrb;refine wp_region_lit ?_;refine @wpList_load_known _ _ _ _ _ _ _ ?_ 27 (.tmp 4) rfl (tb) (0) rfl (.agg #[.slice lad ln lc,.slice pad pn pc]) (run_loadVar_row w1 tb 27 27 _ (0,0) _ T1.out Tryz.underlying27 rfl treeInfo) ?_;kernel_rfl
 simp only [Act.put,sA,sB,sC];refine @wQ _ _ _ _ _ _ _ ?_ ?_;kernel_rfl;intro K hK;go_simp;refine hK _ _ ?_;clear hK K;refine @wQ _ _ _ _ _ _ _ ?_ ?_;kernel_rfl;intro K hK;go_simp;go_at_call 36
 refine(HLK.out _ K1.out).mono ?_;rintro e w2 ⟨rfl,k2⟩;have K2:=hid (K1.out.next1 k2);have T2:=hid (rk T1.out k2);have R2:=hid (rk R1.out k2);clear k2;refine hK _ _ ?_;clear hK K;refine @wQ _ _ _ _ _ _ _ ?_ ?_;kernel_rfl;intro K hK;go_simp;refine hK _ _ ?_;clear hK K
 go_upto_region 2 with fail
 refine wp_region_lit ?_;iterate 2 (refine @wQ _ _ _ _ _ _ _ ?_ ?_;kernel_rfl;intro K hK;go_simp;refine hK _ _ ?_;clear hK K)
 go_upto_region 3 with fail
 refine wp_region_lit ?_;refine @wpL_build0 _ _ _ _ _ _ _ ?_ 27 rfl _ (build_tree0 _) ?_;kernel_rfl
 simp only [Act.put,sA,sB,sC];refine @wQ _ _ _ _ _ _ _ ?_ ?_;kernel_rfl;intro K hK;go_simp;refine hK _ _ ?_;clear hK K;refine wpList_store_row rfl 27 _ _ rfl (rb) #[.slice none 0 0,.slice none 0 0] rfl rfl 27 #[.slice none 0 0,.slice none 0 0] R2.out treeInfo rfl (tree_all _ _ _ _ _ _) ?_
 simp only [Act.put];refine @wQ _ _ _ _ _ _ _ ?_ ?_;kernel_rfl;intro K hK;go_simp;refine hK _ _ ?_;clear hK K;have R3:=setRow_heap w2 rb _ #[.slice none 0 0,.slice none 0 0] _ _ R2.out;have K3:=hid (K2.out.grown (grown_setRow w2 rb #[.slice none 0 0,.slice none 0 0]) K2.out.size (fun k e=>by cases e; exact Nat.le_of_not_lt HRB.out))
 generalize w2.setRow rb #[.slice none 0 0,.slice none 0 0] = w3 at R3 K3 ⊢;go_wp2;refine bodyPost_ret (results_row2 rfl _ _ rb 27 _ (0,0) _ rfl R3 Tryz.underlying27 rfl treeInfo) rfl ?_
 exact⟨rfl,K3.out⟩
theorem build_one8 (y:Int)(w:World):(Instr.buildSlice 57 1 #[(0,.int .i64 y)]).run Tryz.prog w = .ok (.slice (some ⟨w.heap.size,0,none⟩) 1 1) (w.alloc (.cells #[.int .i64 y] 3)):=by
 obtain⟨i0,hi,hz0,hz1,hz2⟩:=info_parts intInfo;exact run_buildSlice w _ _ 1 _ #[.int .i64 y] i0 _ Tryz.underlying57 hi hz0 (by rw [hz1]; decide) (by rw [hz1]; decide) (by rw [hz1]; first | kernel_rfl | simp [Instr.fill,Value.cells] | decide)
theorem path_bad (lv pv:Value)(L:List Lf)(P:List Pr)(x:Int)(pub:List UInt8)(hpub:pub.length = 32)(kad:Option Addr)(kn kc:Nat)(w:World)(hL:Lvs w lv L)(hP:Pts w pv P)(hn:L.length≤1000)(hp:P.length≤1000)(hpl:∀ p∈P,p.loose.length≤1000)(hlk:Tt.lacks L P x = 0)(hx0:0≤x)(hx9:x≤1000)(hkn:(Bo.Direct L.length x).length≠kn):
  Calls Tryz.prog 14 #[.agg #[lv,pv],.int .i64 x,.agg (bcells pub).toArray,.slice kad kn kc] w fun e w'=>e = .returned (.tuple #[.agg #[.slice none 0 0,.slice none 0 0],.int .i64 16])∧Kept w.heap.size w.heap.size w w':=by
 have HLK:=hid (fun(u:World) (kk:Kept w.heap.size w.heap.size w u)=>lacks_calls lv pv L P x u (hL.kept kk) (hP.kept kk) hn hp hpl)
 rw [hlk] at HLK;clear hlk;have HD:=hid (fun(u:World)=>direct_calls lenIs (L.length:Int) x u)
 obtain⟨D,hD⟩:∃ D,D = Bo.Direct (L.length:Int) x:=⟨_,rfl⟩;rw [← hD] at hkn HD;obtain⟨m,hm⟩:∃ m,m = D.length:=⟨_,rfl⟩;rw [← hm] at hkn;have HM9:=hid (show m≤66 by rw [hm,hD]; exact Bo.direct_len66 _ _)
 obtain⟨wn,hwn⟩:∃ wn,wn = m + 1:=⟨_,rfl⟩;have HWN:=hid (show([2 * x] ++ D).length = wn by rw [List.length_append,← hm,hwn]; exact Nat.add_comm _ _)
 have HX2:=hid (show IntKind.i64.wrap (2 * x) = 2 * x from wrap_small _ (by omega) (by omega))
 have HW1:=hid (show IntKind.i64.wrap ((wn:Int) - 1) = (m:Int) by have:=HM9.out; rw [show(wn:Int) - 1 = (m:Int) by omega]; exact wrap_small _ (by omega) (by omega))
 have HML:=hid (show D.length≤66 by rw [← hm]; exact HM9.out)
 have HNE:=hid (show((kn:Int) == (m:Int)) = false by rw [beq_eq_false_iff_ne]; omega)
 clear hkn hwn hx0 hx9 hD;obtain⟨lad,lc,rfl⟩:=hL.shape;obtain⟨pad,pc,rfl⟩:=hP.shape;obtain⟨ln,hln⟩:∃ ln,ln = L.length:=⟨_,rfl⟩;obtain⟨pn,hpn⟩:∃ pn,pn = P.length:=⟨_,rfl⟩;rw [← hln,← hpn] at HLK;rw [← hln] at HD;rw [← hln,← hpn];have hln9:(ln:Int)≤1000:=by omega
 have HLN:=hid hln;have HPN:=hid hpn;have HPB:=hid hpub;obtain⟨D,hD⟩:∃ D,D = (bcells pub).toArray:=⟨_,rfl⟩;have HDE:=hid hD;have hsz:D.size = 32:=by rw [hD,List.size_toArray,bcells_length,hpub]
 have HSZ:=hid hsz;have hinf:(Tryz.prog.info? 35).map (·.size) = some D.size:=by rw [hD]; exact hashInfoT (by rw [bcells_length,hpub])
 have HINF:=hid hinf;have HALL:=hid (show D.all (·.oneCell') = true by rw [hD]; exact bytesAll pub)
 rw [← hD];clear hpub hD hsz hinf;clear hL hP hn hp hpl hln hpn;have k1:=kA w (.cells #[.slice lad ln lc,.slice pad pn pc] 27)
 have t1:=heap_new w (.cells #[.slice lad ln lc,.slice pad pn pc] 27)
 have s1:(w.alloc (.cells #[.slice lad ln lc,.slice pad pn pc] 27)).heap.size = w.heap.size + 1:=by simp
 go_enter Tryz.func14,Tryz.ntmps14
 go_upto_region 1 with fail
 generalize w.alloc (.cells #[.slice lad ln lc,.slice pad pn pc] 27) = wa at k1 t1 s1 ⊢
 have k2:=kA wa (.cells D 35)
 have e2:=heap_new wa (.cells D 35)
 have s2:(wa.alloc (.cells D 35)).heap.size = wa.heap.size + 1:=by simp
 have t2:=rk t1 k2;generalize wa.alloc (.cells D 35) = wb at k2 e2 s2 t2 ⊢
 have k3:=kA wb (.cells #[.slice none 0 0,.slice none 0 0] 27)
 have r3:=heap_new wb (.cells #[.slice none 0 0,.slice none 0 0] 27)
 have s3:(wb.alloc (.cells #[.slice none 0 0,.slice none 0 0] 27)).heap.size = wb.heap.size + 1:=by simp
 have t3:=rk t2 k3;have e3:=rk e2 k3;generalize wb.alloc (.cells #[.slice none 0 0,.slice none 0 0] 27) = w1 at k3 r3 s3 t3 e3 ⊢
 have K1:=hid ((k1.next1 k2).next1 k3);rw [s2,s1] at r3 s3;rw [s1] at e3
 (try rw [s2])
 (try rw [s1])
 obtain⟨tb,htb⟩:∃ tb,tb = w.heap.size:=⟨_,rfl⟩;obtain⟨lb,hlb⟩:∃ lb,lb = w.heap.size + 1:=⟨_,rfl⟩;obtain⟨rb,hrb⟩:∃ rb,rb = w.heap.size + 1 + 1:=⟨_,rfl⟩;rw [← hrb] at r3
 (try rw [← hrb])
 rw [← hlb] at e3
 (try rw [← hlb])
 rw [← htb] at t3
 (try rw [← htb])
 have HTL:=hid (show tb≠lb by omega)
 have HTR:=hid (show tb≠rb by omega)
 have HTB:=hid (show ¬ tb < w.heap.size by omega)
 have HRB:=hid (show ¬ rb < w.heap.size by omega)
 have HWS:=hid (show w.heap.size≤w1.heap.size by omega)
 have T1:=hid t3;have R1:=hid r3;have E1:=hid e3;clear k1 t1 s1 k2 e2 s2 t2 k3 r3 s3 t3 e3 htb hlb hrb;refine wp_region_lit ?_;refine @wpList_load_known _ _ _ _ _ _ _ ?_ 27 (.tmp 4) rfl (tb) (0) rfl (.agg #[.slice lad ln lc,.slice pad pn pc]) (run_loadVar_row w1 tb 27 27 _ (0,0) _ T1.out Tryz.underlying27 rfl treeInfo) ?_;kernel_rfl
 simp only [Act.put,sA,sB,sC];refine @wQ _ _ _ _ _ _ _ ?_ ?_;kernel_rfl;intro K hK;go_simp;refine hK _ _ ?_;clear hK K;refine @wQ _ _ _ _ _ _ _ ?_ ?_;kernel_rfl;intro K hK;go_simp;go_at_call 36
 refine(HLK.out _ K1.out).mono ?_;rintro e w2 ⟨rfl,k2⟩;have K2:=hid (K1.out.next1 k2);have T2:=hid (rk T1.out k2);have R2:=hid (rk R1.out k2);clear k2;refine hK _ _ ?_;clear hK K;refine @wQ _ _ _ _ _ _ _ ?_ ?_;kernel_rfl;intro K hK;go_simp;refine hK _ _ ?_;clear hK K;have t0:=load_slice (d:=.int .u8) (two_cell0 T2.out) (.inl rfl) rfl
 go_upto_region 4 with fail
 refine wp_region_lit ?_;refine @wQ _ _ _ _ _ _ _ ?_ ?_;kernel_rfl;intro K hK;go_simp;refine hK _ _ ?_;clear hK K;refine @wpList_load_known _ _ _ _ _ _ _ ?_ 24 (.tmp 23) rfl (tb) (0) rfl (.slice lad ln lc) (t0) ?_;kernel_rfl
 simp only [Act.put,sA,sB,sC];iterate 2 (refine @wQ _ _ _ _ _ _ _ ?_ ?_;kernel_rfl;intro K hK;go_simp;refine hK _ _ ?_;clear hK K)
 clear t0
 go_upto_region 5 with fail
 refine wp_region_lit ?_;iterate 2 (refine @wQ _ _ _ _ _ _ _ ?_ ?_;kernel_rfl;intro K hK;go_simp;refine hK _ _ ?_;clear hK K)
 rw [HX2.out];refine @wpL_sliceN _ _ _ _ _ _ _ _ ?_ 57 1 _ rfl #[(0,.int .i64 (2 * x))] (by simp only [List.map_toArray,List.map_cons,List.map_nil]; rfl) _ (build_one8 _ _) ?_;kernel_rfl
 simp only [Act.put,sA,sB,sC];have i3:=Ints.new w2 [2 * x] (by rw [List.length_singleton]; decide)
 have k3:=kA w2 (.cells #[.int .i64 (2 * x)] 3)
 rw [show([2 * x].map (Value.int .i64)).toArray = #[.int .i64 (2 * x)] from rfl,show([2 * x]:List Int).length = 1 from rfl] at i3;have s3:(w2.alloc (.cells #[.int .i64 (2 * x)] 3)).heap.size = w2.heap.size + 1:=by simp
 generalize w2.alloc (.cells #[.int .i64 (2 * x)] 3) = w3 at i3 k3 s3 ⊢
 obtain⟨wb,hwb⟩:∃ wb,wb = w2.heap.size:=⟨_,rfl⟩;have HWT:=hid (show tb < wb by rw [hwb]; exact lt_of_block T2.out)
 have HWR:=hid (show rb < wb by rw [hwb]; exact lt_of_block R2.out)
 have HWW:=hid (show w.heap.size≤wb by rw [hwb]; exact K2.out.size)
 have K3:=hid (K2.out.next1 k3);have T3:=hid (rk T2.out k3);have R3:=hid (rk R2.out k3);clear k3;rw [← hwb] at i3 s3
 (try rw [← hwb])
 have I3:=hid i3;have S3:=hid (show wb≤w3.heap.size by omega)
 clear i3 s3 hwb;iterate 2 (refine @wQ _ _ _ _ _ _ _ ?_ ?_;kernel_rfl;intro K hK;go_simp;refine hK _ _ ?_;clear hK K)
 refine @wQ _ _ _ _ _ _ _ ?_ ?_;kernel_rfl;intro K hK;go_simp;go_at_call 34
 refine(HD.out _).mono ?_;rintro e w4 ⟨dv,rfl,di,k4⟩;have i4:=I3.out.kept k4;have s4:=Nat.le_trans S3.out k4.size;have K4:=hid (K3.out.next1 k4);have T4:=hid (rk T3.out k4);have R4:=hid (rk R3.out k4);clear k4;obtain⟨wv,w5,hap,i5,g5⟩:=append_row8 w4 wb _ _ _ _ _ i4 di (by have:=HML.out; rw [List.length_singleton]; omega) s4
 have hlow:∀ q,(Value.slice (some ⟨wb,0,none⟩) 1 1).ownBlock = some q→wb≤q:=fun q e=>(World.ownsRow.lt i4 q e).1
 have K5:=hid (K4.out.grown g5 K4.out.size (fun q e=>Nat.le_trans HWW.out (hlow q e)))
 have T5:=hid ((g5.block tb (lt_of_block T4.out) (fun e=>Nat.not_lt.2 (hlow tb e.symm) HWT.out)).trans T4.out)
 have R5:=hid ((g5.block rb (lt_of_block R4.out) (fun e=>Nat.not_lt.2 (hlow rb e.symm) HWR.out)).trans R4.out)
 obtain⟨wad,wc,rfl⟩:=(ints_nums i5).shape;rw [HWN.out] at i5 hap;obtain⟨dad,dc,rfl⟩:=(ints_nums di).shape;have I5:=hid i5;have AP5:=hid hap;have hml:=hm;rw [← hml] at AP5 ⊢;clear i4 s4 g5 hlow i5 hap di hml;refine hK _ _ ?_;clear hK K;refine wpList_append_known rfl (.tmp 28) (.tmp 31) 57 57 57 rfl rfl _ _ rfl rfl AP5.out ?_
 simp only [Act.put,sA,sB,sC];refine @wQ _ _ _ _ _ _ _ ?_ ?_;kernel_rfl;intro K hK;go_simp;refine hK _ _ ?_;clear hK K;have hne:=HNE.out
 go_upto_region 6 with fail
 refine wp_region_lit ?_;iterate 5 (refine @wQ _ _ _ _ _ _ _ ?_ ?_;kernel_rfl;intro K hK;go_simp;refine hK _ _ ?_;clear hK K)
 rw [HW1.out];refine @wQ _ _ _ _ _ _ _ ?_ ?_;kernel_rfl;intro K hK;go_simp;refine hK _ _ ?_;clear hK K
 go_upto_region 7 with fail
 refine wp_region_lit ?_;refine @wpL_build0 _ _ _ _ _ _ _ ?_ 27 rfl _ (build_tree0 _) ?_;kernel_rfl
 simp only [Act.put,sA,sB,sC];refine wpList_store_row rfl 27 _ _ rfl (rb) #[.slice none 0 0,.slice none 0 0] rfl rfl 27 #[.slice none 0 0,.slice none 0 0] R5.out treeInfo rfl (tree_all _ _ _ _ _ _) ?_
 simp only [Act.put];refine @wQ _ _ _ _ _ _ _ ?_ ?_;kernel_rfl;intro K hK;go_simp;refine hK _ _ ?_;clear hK K;have R9:=setRow_heap w5 rb _ #[.slice none 0 0,.slice none 0 0] _ _ R5.out;have K9:=hid (K5.out.grown (grown_setRow w5 rb #[.slice none 0 0,.slice none 0 0]) K5.out.size (fun k e=>by cases e; exact Nat.le_of_not_lt HRB.out))
 generalize w5.setRow rb #[.slice none 0 0,.slice none 0 0] = w9 at R9 K9 ⊢;go_wp2;refine bodyPost_ret (results_row2 rfl _ _ rb 27 _ (0,0) _ rfl R9 Tryz.underlying27 rfl treeInfo) rfl ?_
 exact⟨rfl,K9.out⟩
end Go.Proofs.YtaobiofngnfdiaaGreatDoor
