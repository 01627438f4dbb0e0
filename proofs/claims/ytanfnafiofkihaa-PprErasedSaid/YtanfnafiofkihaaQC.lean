/-
 PprKeyB; PprBelowB; PprWkB; PprReplT; PprWalkB; PprLookB; PprFactsM; PprPlayB: several texts in one.
-/
import Derived.Test.YtanfnafiofkihaaGR
import Derived.Test.YtanfnafiofkihaaPA
import Derived.Test.YtanfnafiofkihaaPB
import Derived.Test.YtanfnafiofkihaaGP
import Derived.Test.YtanfnafiofkihaaGS
import Derived.Test.YtanfnafiofkihaaGT
import Derived.Test.YtanfnafiofkihaaQB
set_option maxRecDepth 100000
set_option maxHeartbeats 6400000
namespace Go.Proofs.Ytanfnafiofkihaa
open Go.RowKit Go.Lib
open List renaming setIfInBounds_toArray -> sA, set_cons_zero -> sB, set_cons_succ -> sC
open BigFrame renaming wpList_want -> wQ
theorem qnote_bookX (base bb n:Nat)(fs:Facts)(X:Nat->Prop)(k:List UInt8)(hk:Hid (k.length = 32))(b:Value)(O:List (List UInt8))(w:World)(hB:InBk w base bb fs n X)(hbase:base<=w.heap.size)(hX:∀ k,X k->k < w.heap.size)(hm:Mild fs n)(ho:O.length < 1000000)(hb:Hs w b O)(hwh:Whole b):
  Calls Try.prog 106 #[.pointer (some ⟨bb,0,none⟩),.agg (bcells k).toArray,b] w λe w'=>e = .returned (.tuple #[])/\InBk w' base bb (Bk.note fs ([k],O)) (n + 3) X/\BkFr base w w':=by
 have hku:=keyInfo hk.out;have hk1:(bcells k).toArray.size = 32:=by rw [List.size_toArray,bcells_length,hk.out]
 have hN:∀ w2:World,Kept w.heap.size w.heap.size w w2->w2.heap[w.heap.size + 1]? = some (.cells (bcells k).toArray 26 (0,0))->Calls Try.prog 67 #[.pointer (some ⟨bb,0,none⟩),.agg #[.slice (some ⟨w.heap.size + 1,0,none⟩) 1 1,b]] w2 λe w'=>(∃ n,e = .returned (.int .i64 n))/\InBk w' base bb (Bk.note fs ([k],O)) (n + 3) X/\BkFr base w2 w':=λw2 kk h2=>by
  obtain⟨n',h1,S,h3,h4⟩:=hB;obtain⟨m1,m2,m3⟩:=hm;refine(note_callsX base bb n' fs (λ_=>none) S ([k],O) _ b w2 (h4.kept kk) (Nat.le_trans hbase kk.size) (hs_one hk.out h2) (hb.kept kk) (λ_ _ e=>by cases e) hwh (λw' hf=>hs_one hk.out (hf.row h2)) (by omega) m2 m3 (by show 1 < _; decide) ho (by rw [h3]; exact λi hi=>Nat.lt_of_lt_of_le (hX i hi) kk.size)).mono ?_
  rintro e w' ⟨rfl,⟨n2,hn2,S2,hS2,hB2⟩,hf⟩;refine⟨⟨_,rfl⟩,⟨n2,?_,S2,hS2.trans h3,hB2⟩,hf⟩;have:n2<=n' + 1 + 2:=hn2
  omega
 have HBASE:=hid hbase;obtain⟨zp1,bad,bg,bo,bc,rfl,zp2⟩:=id hb;clear zp1 zp2 hb hwh hB hX hm ho hbase;generalize hkc:(bcells k).toArray = kc at hku hk1 hN;have HKI:=hid hku;have HK32:=hid hk1;have HN:=hid hN;clear hkc hku hk1 hN;obtain⟨i0,z0,hi0,hz0,hzs0,hs0,hb0⟩:=hash_info;have HI0:=hid hi0;have HZ0:=hid hz0;have HS0:=hid hs0;clear hi0 hz0 hzs0 hs0 hb0
 go_enter Try.func106,Try.ntmps106
 go_upto_region 1 with fail
 have hP:(w.alloc (.cells kc 26)).heap[w.heap.size]? = some (.cells kc 26 (0,0)):=heap_new _ _
 have k1:Kept w.heap.size w.heap.size w (w.alloc (.cells kc 26)):=(Kept.refl _ _ _).alloc (Nat.le_refl _) _
 have s1:(w.alloc (.cells kc 26)).heap.size = w.heap.size + 1:=by simp
 generalize w.alloc (.cells kc 26) = w1 at hP k1 s1 |-
 have HP:=hid hP;have HK1:=hid k1;have HS1:=hid s1;obtain⟨wa,hwa⟩:∃ wa,wa = w.heap.size:=⟨_,rfl⟩;rw [<- hwa];have HWA:=hid hwa;clear hP k1 s1 hwa;refine wp_region_lit ?_;refine wW λK hK=>?_;go_simp;apply hK;clear hK K;refine wpList_load_row_g ?hwa1 26 _ rfl (wa) rfl 26 kc (0,0) _ (by rw [HWA.out]; exact HP.out) Try.underlying26 rfl HKI.out ?_
 case hwa1=>kernel_rfl
 simp only [Act.put,sA,sB,sC];refine wpList_build_one_g ?hwa2 _ 23 26 rfl i0 z0 Try.underlying23 HI0.out HZ0.out kc rfl (by rw [HS0.out]; exact HK32.out) (by rw [HS0.out]; decide) (by rw [HS0.out]; decide) ?_
 case hwa2=>kernel_rfl
 simp only [Act.put,sA,sB,sC];have kA:Kept w.heap.size w.heap.size w (w1.alloc (.cells kc 26)):=HK1.out.alloc HK1.out.size _
 have hA:(w1.alloc (.cells kc 26)).heap[w.heap.size + 1]? = some (.cells kc 26 (0,0)):=by rw [<- HS1.out]; exact heap_new _ _
 have HNN:=hid (HN.out _ kA hA);have hw1:=HS1.out;rw [<- HWA.out] at hw1 HNN;rw [hw1];clear hw1;generalize w1.alloc (.cells kc 26) = w3 at kA HNN |-
 have KA:=hid kA;clear kA hA;iterate 2 (refine wW λK hK=>?_;go_simp;apply hK;clear hK K)
 refine wW λK hK=>?_;go_simp;go_at_call 67; refine HNN.out.mono ?_; rintro e w4 ⟨⟨n4,rfl⟩,q4,f4⟩
 apply hK;clear hK K;go_wp2
 go_end0
 exact⟨rfl,q4,(BkFr.ofKept HBASE.out KA.out).trans f4⟩
theorem key_bookX (base bb n:Nat)(fs:Facts)(X:Nat->Prop)(s:Sd)(bits:Nat)(hs:Pp.In bits s)(w:World)(hB:InBk w base bb fs n X)(hbase:base<=w.heap.size)(hX:∀ k,X k->k < w.heap.size)(hm:Mild fs n):Calls Try.prog 87 #[.agg (Pp.cells s).toArray,.pointer (some ⟨bb,0,none⟩)] w λe w'=>e = .returned (.agg (bcells (Pp.key s.self)).toArray)/\InBk w' base bb (Bk.note fs ([s.self],[Pp.key s.self])) (n + 3) X/\BkFr base w w':=by
 have hBW:∀ w2,Kept w.heap.size w.heap.size w w2->InBk w2 base bb fs n (λi=>X i\/i = w.heap.size + 1):=λw2 kk=>(hB.freshOr (λi=>i = w.heap.size + 1) (λi hi=>by omega)).kept kk
 have hk:=hs.2.2;have hku:=keyInfo hk;have hD0:∀ w:World,(w.alloc (.cells (Pp.cells s).toArray 101)).rangeAt w.heap.size 2 (bcells s.self):=λw=>seed_self (o:=0) (by simpa using row_range (heap_new w (.cells (Pp.cells s).toArray 101)))
 generalize (Pp.cells s).toArray = D at hD0 |-;generalize s.self = k at hk hku hD0 |-;clear hs;have hdv:=λw=>sum_two ⟨#[107,101,121]⟩ (str k) w (by decide) (by rw [str_size,hk]; decide)
 rw [show Sm.sum ((⟨#[107,101,121]⟩:ByteArray).data.toList ++ (str k).data.toList) = Pp.key k from rfl] at hdv;have hdl:(Pp.key k).length = 32:=sum_length _;have hqn:=λ(X:Nat->Prop) (b:Value) (w2:World) (hI:InBk w2 base bb fs n X) (h1:base<=w2.heap.size) (h2:∀ k,X k->k < w2.heap.size) (hb:Hs w2 b [Pp.key k]) (hw:Whole b)=>qnote_bookX base bb n fs X k (hid hk) b [Pp.key k] w2 hI h1 h2 hm (by show 1 < _; decide) hb hw
 generalize Pp.key k = m at hdv hdl hqn |-;obtain⟨fs2,hfs2⟩:∃ t,t = Bk.note fs ([k],[m]):=⟨_,rfl⟩;rw [<- hfs2] at hqn |-;have hiu:=keyInfo (l:=m) (hdl);have hzu:=keySize (l:=m) (hdl);have hcs:(bcells m).toArray.size = 32:=by rw [List.size_toArray,bcells_length,hdl]
 have hall:=bcells_all m;have hqm:∀ (w2:World) (g wb:Nat),InBk w2 base bb fs n (λi=>X i\/i = wb)->base<=w2.heap.size->w.heap.size<=w2.heap.size->wb < w2.heap.size->w2.heap[g]? = some (.cells (bcells m).toArray 26 (0,0))->Calls Try.prog 106 #[.pointer (some ⟨bb,0,none⟩),.agg (bcells k).toArray,.slice (some ⟨g,0,none⟩) 1 1] w2 λe w'=>e = .returned (.tuple #[])/\InBk w' base bb fs2 (n + 3) (λi=>X i\/i = wb)/\BkFr base w2 w':=λw2 g wb hI h1 h9 h2 h=>hqn (λi=>X i\/i = wb) _ w2 hI h1 (λi hi=>hi.elim (λhi=>Nat.lt_of_lt_of_le (hX i hi) h9) (λhi=>by rw [hi]; exact h2)) (hs_one hdl h) (λ_ _ e=>by cases e)
 have hcA:∀ (w2:World) (g:Nat),w2.rangeAt g 2 (bcells k)->(convert 45 9 (.slice (some ⟨g,2,none⟩) 32 32)).run Try.prog w2 = .ok (.string (str k)) w2:=λw2 g h=>by
  have:=conv_self h 32
  rwa [hk] at this
 have hld:∀ (w2:World) (g:Nat),w2.rangeAt g 2 (bcells k)->(loadVar 26 ⟨g,2,none⟩).run Try.prog w2 = .ok (.agg (bcells k).toArray) w2:=λw2 g h=>run_loadVar_mid w2 g 2 26 (bcells k) _ h Try.underlying26 rfl (by rw [hku]; simp)
 have HBW:=hid hBW;have HBASE:=hid hbase;clear hqn hBW hB hbase hX hm hfs2;generalize hcu:(bcells m).toArray = cu at hiu hzu hcs hall hdv hqm |-;generalize hkc:(bcells k).toArray = kc at hqm hld;generalize hmc:bcells k = M at hD0 hcA hld;generalize str k = sk at hcA hdv;have HIU:=hid hiu;have HZU:=hid hzu;have HALL:=hid hall;have Hcs:=hid hcs;have HDV:=hid hdv;have HQM:=hid hqm;have HLD:=hid hld;have HD0:=hid hD0;have HCA:=hid hcA;clear hiu hzu hall hcs hcu hkc hmc hdv hqm hcA hld hD0 hku hk hdl;obtain⟨i0,z0,hi0,hz0,hzs0,hs0,hb0⟩:=hash_info;have HI0:=hid hi0;have HZ0:=hid hz0;have HS0:=hid hs0;clear hi0 hz0 hzs0 hs0 hb0
 go_enter Try.func87,Try.ntmps87
 go_upto_region 1 with fail
 rw [zeros32_eq];have hR:((w.alloc (.cells D 101)).alloc (.cells zeros32 26)).heap[w.heap.size + 1]? = some (.cells zeros32 26 (0,0)):=heap_alloc2_last w _ _
 have k1:Kept w.heap.size w.heap.size w ((w.alloc (.cells D 101)).alloc (.cells zeros32 26)):=((Kept.refl _ _ _).alloc (Nat.le_refl _) _).alloc (by simp) _
 have s1:((w.alloc (.cells D 101)).alloc (.cells zeros32 26)).heap.size = w.heap.size + 2:=by simp
 have hM:((w.alloc (.cells D 101)).alloc (.cells zeros32 26)).rangeAt w.heap.size 2 M:=by
  have hz:w.heap.size < (w.alloc (.cells D 101)).heap.size:=by simp
  exact rangeAt_kept ((Kept.refl _ _ _).alloc (Nat.le_refl _) _) (HD0.out w) hz (Nat.ne_of_lt hz)
 generalize (w.alloc (.cells D 101)).alloc (.cells zeros32 26) = w1 at hR k1 s1 hM |-
 obtain⟨wa,hwa⟩:∃ wa,wa = w.heap.size:=⟨_,rfl⟩;rw [<- hwa] at hR k1 s1 hM |-;have hrow:∀ w',Kept w1.heap.size w1.heap.size w1 w'->w'.heap[wa + 1]? = some (.cells zeros32 26 (0,0)):=λw' kk=>(kk.block (wa + 1) (by omega) (by omega)).trans hR
 have hmid:∀ w',Kept w1.heap.size w1.heap.size w1 w'->w'.rangeAt wa 2 M:=λw' kk=>rangeAt_kept kk hM (by omega) (by omega)
 have cA:=HCA.out w1 wa hM;have HROW:=hid hrow;have HMID:=hid hmid;have HK1:=hid k1;have HS1:=hid s1;have HWA:=hid hwa;clear hR k1 s1 hM hrow hmid hwa;refine wp_region_lit ?_;iterate 4 (refine wW λK hK=>?_;go_simp;apply hK;clear hK K)
 refine wW λK hK=>?_;go_simp;go_at_call 43; refine(HDV.out _).mono ?_; rintro e w3 ⟨rfl,k3⟩
 apply hK;clear hK K;have k3':Kept w1.heap.size w1.heap.size w1 w3:=((Kept.refl _ _ _).alloc (Nat.le_refl _) _).trans (k3.mono (Nat.le_succ _) (λi hi _=>by omega))
 refine wpList_alloc_k rfl 26 rfl (alloc_zero _) ?_
 simp only [Act.put,sA,sB,sC];refine wpList_store_row rfl 26 _ _ rfl (w3.heap.size) cu rfl rfl 26 zeros32 (heap_new _ _) HIU.out HZU.out HALL.out ?_
 simp only [Act.put];have K4:Kept w1.heap.size w1.heap.size w1 (w3.alloc (.cells zeros32 26)):=k3'.alloc k3'.size _
 have K5:Kept w1.heap.size w1.heap.size w1 ((w3.alloc (.cells zeros32 26)).setRow w3.heap.size cu):=Kept.ofBelow (below_setRow (K4.below (Nat.le_refl _) (Nat.le_refl _)) k3'.size cu) (Nat.le_refl _)
 have r5:=setRow_heap (w3.alloc (.cells zeros32 26)) w3.heap.size zeros32 cu _ _ (heap_new _ _)
 generalize (w3.alloc (.cells zeros32 26)).setRow w3.heap.size cu = w5 at K5 r5 |-
 have hwm:w1.heap.size<=w3.heap.size:=k3'.size;generalize w3.heap.size = wm at r5 hwm |-;clear K4 k3' k3 cA;have R5:=hid r5;have HK5:=hid K5;have HL5:=hid (HLD.out w5 wa (HMID.out w5 K5));clear r5 K5
 go_upto_region 2 with fail
 refine wp_region_lit ?_;iterate 2 (refine wW λK hK=>?_;go_simp;apply hK;clear hK K)
 refine wpList_load_known ?hwb2 26 _ rfl wa 2 rfl (.agg kc) HL5.out ?_
 case hwb2=>kernel_rfl
 simp only [Act.put,sA,sB,sC];refine wpList_load_row_g ?hwb3 26 _ rfl (wm) rfl 26 cu (0,0) _ (R5.out) Try.underlying26 rfl HIU.out ?_
 case hwb3=>kernel_rfl
 simp only [Act.put,sA,sB,sC];refine wpList_build_one_g ?hwb4 _ 23 26 rfl i0 z0 Try.underlying23 HI0.out HZ0.out cu rfl (by rw [HS0.out]; exact Hcs.out) (by rw [HS0.out]; decide) (by rw [HS0.out]; decide) ?_
 case hwb4=>kernel_rfl
 simp only [Act.put,sA,sB,sC];have k6:Kept w1.heap.size w1.heap.size w1 (w5.alloc (.cells cu 26)):=HK5.out.alloc HK5.out.size _
 have h6:(w5.alloc (.cells cu 26)).heap[w5.heap.size]? = some (.cells cu 26 (0,0)):=heap_new _ _
 have r6:(w5.alloc (.cells cu 26)).heap[wm]? = some (.cells cu 26 (0,0)):=by rw [Below.heap_alloc _ _ _ (lt_of_block R5.out)]; exact R5.out
 generalize w5.alloc (.cells cu 26) = w6 at k6 h6 r6 |-
 have kW6:Kept w.heap.size w.heap.size w w6:=by
  have e1:=HWA.out;have e2:=HS1.out;rw [<- e1];exact HK1.out.trans (k6.mono (by omega) (λk hk _=>by omega))
 have z6:=HROW.out w6 k6;have b6:=HBW.out w6 kW6;rw [<- HWA.out] at b6;have HQ:=hid (HQM.out w6 w5.heap.size (wa + 1) b6 (Nat.le_trans HBASE.out kW6.size) kW6.size (lt_of_block z6) h6);have KW6:=hid kW6;have Z6:=hid z6;clear kW6 b6 z6;generalize w5.heap.size = g5 at HQ |-;have K6:=hid k6;have R6:=hid r6;clear k6 h6 r6;refine wW λK hK=>?_;go_simp;go_at_call 106; refine HQ.out.mono ?_; rintro e w8 ⟨rfl,q8,f8⟩
 apply hK;clear hK K;have F8:=hid ((BkFr.ofKept HBASE.out KW6.out).trans f8);have R8:=hid (f8.row R6.out);have Z8:=hid (f8.row Z6.out);have B8:=hid q8;clear q8 f8
 go_upto_region 3 with fail
 refine wp_region_lit ?_;refine wpList_load_row_g ?hwl1 26 _ rfl (wm) rfl 26 cu (0,0) _ (R8.out) Try.underlying26 rfl HIU.out ?_
 case hwl1=>kernel_rfl
 simp only [Act.put,sA,sB,sC];refine wpList_store_row rfl 26 _ _ rfl (wa + 1) cu rfl rfl 26 zeros32 (Z8.out) HIU.out HZU.out HALL.out ?_
 simp only [Act.put];have t2:=setRow_heap w8 (wa + 1) zeros32 cu _ _ (Z8.out);have t1:BkFr base w (w8.setRow (wa + 1) cu):=F8.out.put HBASE.out (wa + 1) (by have:=HWA.out; omega) cu
 have b9:InBk (w8.setRow (wa + 1) cu) base bb fs2 (n + 3) X:=(B8.out.put (wa + 1) (.inr rfl) zeros32 cu (0,0) Z8.out).less X (λk hk=>.inl hk)
 have hiu:=HIU.out
 go_wp2_with fail
 refine bodyPost_ret (results_cell_row rfl _ _ (wa + 1) 26 cu (0,0) _ rfl t2 Try.underlying26 rfl hiu) rfl ?_
 exact⟨rfl,b9,t1⟩
theorem below_bookX (base bb n:Nat)(fs:Facts)(X:Nat->Prop)(bits:Nat)(hb:bits<=32)(s:Sd)(hs:Pp.In bits s)(hl:s.level < bits)(w:World)(hB:InBk w base bb fs n X)(hbase:base<=w.heap.size)(hX:∀ k,X k->k < w.heap.size)(hm:Mild fs n):Calls Try.prog 85 #[.agg (Pp.cells s).toArray,.pointer (some ⟨bb,0,none⟩)] w λe w'=>e = .returned (.tuple #[.agg (Pp.cells (Pp.left s)).toArray,.agg (Pp.cells (Pp.right s)).toArray])/\InBk w' base bb (Bk.note fs ([s.self],[(Pp.left s).self,(Pp.right s).self])) (n + 3) X/\BkFr base w w':=by
 obtain⟨fs2,hfs2⟩:∃ t,t = Bk.note fs ([s.self],[(Pp.left s).self,(Pp.right s).self]):=⟨_,rfl⟩;rw [<- hfs2];have HBB:=hid hB;have HBASE:=hid hbase;have HMI:=hid hm;have HFS2:=hid hfs2;have HXW:=hid (λ(w2:World) (h:w.heap.size<=w2.heap.size) (i:Nat) (hi:X i)=>Nat.lt_of_lt_of_le (hX i hi) h)
 clear hB hbase hm hfs2 hX;obtain⟨lev,pl,k⟩:=s;have h32:2 ^ lev<=2 ^ 32:=Nat.pow_le_pow_right (by decide) (Nat.le_trans hs.1 hb)
 have hpl:pl < 4294967296:=Nat.lt_of_lt_of_le hs.2.1 h32;have hlv:lev < 32:=Nat.lt_of_lt_of_le hl hb;have hk:k.length = 32:=hs.2.2
 have hl1:IntKind.i64.wrap ((lev:Int) + 1) = ((lev + 1:Nat):Int):=by
  rw [IntKind.wrap_i64]
  omega
 have hp1:IntKind.i64.wrap (2 * (pl:Int)) = ((2 * pl:Nat):Int):=by
  rw [IntKind.wrap_i64]
  omega
 have hp2:IntKind.i64.wrap (((2 * pl:Nat):Int) + 1) = ((2 * pl + 1:Nat):Int):=by
  rw [IntKind.wrap_i64]
  omega
 have hku:=keyInfo hk;have hcells:∀ w:World,(w.alloc (.cells (Pp.cells ⟨lev,pl,k⟩).toArray 101)).rangeAt w.heap.size 0 (Pp.cells ⟨lev,pl,k⟩):=λw=>by simpa using row_range (heap_new w (.cells (Pp.cells ⟨lev,pl,k⟩).toArray 101))
 have hb1:∀ w:World,(Instr.build 101 #[(0,.int .i64 ((lev + 1:Nat):Int)),(1,.int .i64 ((2 * pl:Nat):Int)),(2,.agg (bcells (Pp.left ⟨lev,pl,k⟩).self).toArray)]).run Try.prog w = .ok (.agg (Pp.cells (Pp.left ⟨lev,pl,k⟩)).toArray) w:=λw=>build_seed w _ _ ⟨_,rfl⟩ ⟨_,rfl⟩ _ (sum_length _)
 have hb2:∀ w:World,(Instr.build 101 #[(0,.int .i64 ((lev + 1:Nat):Int)),(1,.int .i64 ((2 * pl + 1:Nat):Int)),(2,.agg (bcells (Pp.right ⟨lev,pl,k⟩).self).toArray)]).run Try.prog w = .ok (.agg (Pp.cells (Pp.right ⟨lev,pl,k⟩)).toArray) w:=λw=>build_seed w _ _ ⟨_,rfl⟩ ⟨_,rfl⟩ _ (sum_length _)
 have hd1:=λw=>sum_two ⟨#[108,101,102,116]⟩ (str k) w (by decide) (by rw [str_size,hk]; decide)
 rw [show Sm.sum ((⟨#[108,101,102,116]⟩:ByteArray).data.toList ++ (str k).data.toList) = (Pp.left ⟨lev,pl,k⟩).self from rfl] at hd1;have hd2:=λw=>sum_two ⟨#[114,105,103,104,116]⟩ (str k) w (by decide) (by rw [str_size,hk]; decide)
 rw [show Sm.sum ((⟨#[114,105,103,104,116]⟩:ByteArray).data.toList ++ (str k).data.toList) = (Pp.right ⟨lev,pl,k⟩).self from rfl] at hd2;have hm1:(Pp.left ⟨lev,pl,k⟩).self.length = 32:=sum_length _;have hm2:(Pp.right ⟨lev,pl,k⟩).self.length = 32:=sum_length _;have hi1:=Pp.left_in hs hl;have hi2:=Pp.right_in hs hl;have hu1:=keyInfo hm1;have hu2:=keyInfo hm2;have hz1:(bcells (Pp.left ⟨lev,pl,k⟩).self).toArray.size = 32:=by rw [List.size_toArray,bcells_length,hm1]
 have hz2:(bcells (Pp.right ⟨lev,pl,k⟩).self).toArray.size = 32:=by rw [List.size_toArray,bcells_length,hm2]
 have hqn:∀ (w2:World) (g:Nat),InBk w2 base bb fs n X->base<=w2.heap.size->w.heap.size<=w2.heap.size->w2.heap[g]? = some (.cells (bcells (Pp.left ⟨lev,pl,k⟩).self ++ bcells (Pp.right ⟨lev,pl,k⟩).self).toArray 26 (0,0))->Calls Try.prog 106 #[.pointer (some ⟨bb,0,none⟩),.agg (bcells k).toArray,.slice (some ⟨g,0,none⟩) 2 2] w2 λe w'=>e = .returned (.tuple #[])/\InBk w' base bb fs2 (n + 3) X/\BkFr base w2 w':=λw2 g hI h1 h9 h=>by
  rw [HFS2.out];exact qnote_bookX base bb n fs X k (hid hk) _ [(Pp.left ⟨lev,pl,k⟩).self,(Pp.right ⟨lev,pl,k⟩).self] w2 hI h1 (HXW.out w2 h9) HMI.out (by show 2 < _; decide) (hs_two hm1 hm2 h) (λ_ _ e=>by cases e)
 clear HFS2;have hsi1:(Try.prog.info? 101).map (·.size) = some (Pp.cells (Pp.left ⟨lev,pl,k⟩)).toArray.size:=by rw [seedInfo,List.size_toArray,Pp.cells_length hi1]
 have hsi2:(Try.prog.info? 101).map (·.size) = some (Pp.cells (Pp.right ⟨lev,pl,k⟩)).toArray.size:=by rw [seedInfo,List.size_toArray,Pp.cells_length hi2]
 have hsz1:zeros34.size = (Pp.cells (Pp.left ⟨lev,pl,k⟩)).toArray.size:=by rw [zeros34_size,List.size_toArray,Pp.cells_length hi1]
 have hsz2:zeros34.size = (Pp.cells (Pp.right ⟨lev,pl,k⟩)).toArray.size:=by rw [zeros34_size,List.size_toArray,Pp.cells_length hi2]
 have hone:∀ (x:Sd),(Pp.cells x).toArray.all (·.oneCell') = true:=λx=>cells_all x
 have ha1:=hone (Pp.left ⟨lev,pl,k⟩);have ha2:=hone (Pp.right ⟨lev,pl,k⟩);have hr1:∀ (w2:World) (g:Nat),w2.heap[g]? = some (.cells (Pp.cells (Pp.left ⟨lev,pl,k⟩)).toArray 101 (0,0))->(loadVar 26 ⟨g,2,none⟩).run Try.prog w2 = .ok (.agg (bcells (Pp.left ⟨lev,pl,k⟩).self).toArray) w2:=λw2 g h=>load_self hm1 (by simpa using row_range h)
 have hr2:∀ (w2:World) (g:Nat),w2.heap[g]? = some (.cells (Pp.cells (Pp.right ⟨lev,pl,k⟩)).toArray 101 (0,0))->(loadVar 26 ⟨g,2,none⟩).run Try.prog w2 = .ok (.agg (bcells (Pp.right ⟨lev,pl,k⟩).self).toArray) w2:=λw2 g h=>load_self hm2 (by simpa using row_range h)
 have hcA:∀ (w2:World) (g:Nat),w2.rangeAt g 2 (bcells k)->(convert 45 9 (.slice (some ⟨g,2,none⟩) 32 32)).run Try.prog w2 = .ok (.string (str k)) w2:=λw2 g h=>by
  have:=conv_self h 32
  rwa [hk] at this
 have hc0:∀ (w2:World) (g:Nat),w2.rangeAt g 0 (Pp.cells ⟨lev,pl,k⟩)->w2.cell? ⟨g,0,none⟩ = some (.int .i64 (lev:Int))/\w2.cell? ⟨g,1,none⟩ = some (.int .i64 (pl:Int))/\w2.rangeAt g 2 (bcells k)/\(loadVar 26 ⟨g,2,none⟩).run Try.prog w2 = .ok (.agg (bcells k).toArray) w2:=λw2 g h=>
  ⟨by simpa using h 0 _ rfl,by simpa using h 1 _ rfl,seed_self h,load_self hk h⟩
 generalize (Pp.cells (Pp.left ⟨lev,pl,k⟩)).toArray = D1 at *;generalize (Pp.cells (Pp.right ⟨lev,pl,k⟩)).toArray = D2 at *;generalize hD:(Pp.cells ⟨lev,pl,k⟩).toArray = D at *;generalize Pp.cells ⟨lev,pl,k⟩ = DL at *;generalize (Pp.left ⟨lev,pl,k⟩).self = m1 at *;generalize (Pp.right ⟨lev,pl,k⟩).self = m2 at *;generalize hmm:(bcells m1 ++ bcells m2).toArray = M12 at *;have hmm':M12 = (bcells m1).toArray ++ (bcells m2).toArray:=by rw [<- hmm]; simp
 generalize (bcells m1).toArray = c1 at *;generalize (bcells m2).toArray = c2 at *;generalize (bcells k).toArray = kc at *;generalize bcells k = kl at *;generalize str k = sk at *;have HL1:=hid hl1;have HP1:=hid hp1;have HP2:=hid hp2;have HB1:=hid hb1;have HB2:=hid hb2;have HD1:=hid hd1;have HD2:=hid hd2;have HU1:=hid hu1;have HU2:=hid hu2;have HZ1:=hid hz1;have HZ2:=hid hz2;have HQN:=hid hqn;have HI1:=hid hsi1;have HI2:=hid hsi2;have HY1:=hid hsz1;have HY2:=hid hsz2;have HA1:=hid ha1;have HA2:=hid ha2;have HR1:=hid hr1;have HR2:=hid hr2;have HCA:=hid hcA;have HC0:=hid hc0;have HCE:=hid hcells;have HMM:=hid hmm';clear hl1 hp1 hp2 hb1 hb2 hd1 hd2 hu1 hu2 hz1 hz2 hqn hsi1 hsi2 hsz1 hsz2 ha1 ha2 hr1 hr2 hcA hc0 hcells hmm hmm' hD hone hi1 hi2 hm1 hm2 hku hk hpl hlv h32 hs hl hb;obtain⟨i0,z0,hi0,hz0,hzs0,hs0,hb0⟩:=hash_info;have HI0:=hid hi0;have HZ0:=hid hz0;have HS0:=hid hs0;clear hi0 hz0 hzs0 hs0 hb0
 go_enter Try.func85,Try.ntmps85
 go_upto_region 0 with fail
 refine wp_region_lit ?_;refine wW λK hK=>?_;go_simp;apply hK;clear hK K;refine wpList_alloc_k rfl 101 rfl (alloc_seed _) ?_
 simp only [Act.put,sA,sB,sC];refine wpList_alloc_k rfl 101 rfl (alloc_seed _) ?_
 simp only [Act.put,sA,sB,sC];have hc:((w.alloc (.cells D 101)).alloc (.cells zeros34 101)).alloc (.cells zeros34 101) = ((w.alloc (.cells D 101)).alloc (.cells zeros34 101)).alloc (.cells zeros34 101):=rfl
 have e1:(w.alloc (.cells D 101)).heap.size = w.heap.size + 1:=by simp
 have e2:((w.alloc (.cells D 101)).alloc (.cells zeros34 101)).heap.size = w.heap.size + 2:=by simp
 have e3:(((w.alloc (.cells D 101)).alloc (.cells zeros34 101)).alloc (.cells zeros34 101)).heap.size = w.heap.size + 3:=by simp
 have r1:(((w.alloc (.cells D 101)).alloc (.cells zeros34 101)).alloc (.cells zeros34 101)).heap[w.heap.size + 1]? = some (.cells zeros34 101 (0,0)):=by
  rw [Below.heap_alloc _ _ _ (by rw [e2]; omega)]
  exact heap_alloc2_last w _ _
 have r2:(((w.alloc (.cells D 101)).alloc (.cells zeros34 101)).alloc (.cells zeros34 101)).heap[w.heap.size + 2]? = some (.cells zeros34 101 (0,0)):=by
  have:=heap_new ((w.alloc (.cells D 101)).alloc (.cells zeros34 101)) (.cells zeros34 101)
  rwa [e2] at this
 have k1:Kept w.heap.size w.heap.size w (((w.alloc (.cells D 101)).alloc (.cells zeros34 101)).alloc (.cells zeros34 101)):=(((Kept.refl _ _ _).alloc (Nat.le_refl _) _).alloc (by simp) _).alloc (by rw [e2]; omega) _
 have hM:(((w.alloc (.cells D 101)).alloc (.cells zeros34 101)).alloc (.cells zeros34 101)).rangeAt w.heap.size 0 DL:=by
  have hz:w.heap.size < (w.alloc (.cells D 101)).heap.size:=by simp
  exact rangeAt_kept (((Kept.refl _ _ _).alloc (Nat.le_refl _) _).alloc (by simp) _) (HCE.out w) hz (Nat.ne_of_lt hz)
 clear hc
 try rw [e1]
 try rw [e2]
 clear e1 e2;generalize ((w.alloc (.cells D 101)).alloc (.cells zeros34 101)).alloc (.cells zeros34 101) = w1 at e3 r1 r2 k1 hM |-
 obtain⟨wa,hwa⟩:∃ wa,wa = w.heap.size:=⟨_,rfl⟩;rw [<- hwa] at e3 r1 r2 k1 hM |-
 have hcl:∀ w',Kept (wa + 1) (wa + 1) w1 w'->w'.cell? ⟨wa,0,none⟩ = some (.int .i64 (lev:Int))/\w'.cell? ⟨wa,1,none⟩ = some (.int .i64 (pl:Int)):=λw' kk=>by
  have h:=HC0.out w' wa (rangeAt_kept kk hM (by omega) (by omega))
  exact⟨h.1,h.2.1⟩
 have hls:∀ w',Kept (wa + 1) (wa + 1) w1 w'->(loadVar 26 ⟨wa,2,none⟩).run Try.prog w' = .ok (.agg kc) w':=λw' kk=>(HC0.out w' wa (rangeAt_kept kk hM (by omega) (by omega))).2.2.2
 have cA:=HCA.out w1 wa (HC0.out w1 wa hM).2.2.1;have HCL:=hid hcl;have HLS:=hid hls;have HK1:=hid k1;have HSZ:=hid e3;have HWA:=hid hwa;have HRL:=hid r1;have HRR:=hid r2;clear hcl hls k1 e3 hwa r1 r2 hM
 go_upto_region 1 with fail
 refine wp_region_lit ?_;iterate 4 (refine wW λK hK=>?_;go_simp;apply hK;clear hK K)
 clear cA;have HKw1:=hid (Kept.refl (wa + 1) (wa + 1) w1)
 go_upto_region 2 with fail
 refine wp_region_noPanic ?_;have hM:∀ w9,Kept w1.heap.size w1.heap.size w1 w9->Kept (wa + 1) (wa + 1) w1 w9:=λw9 kk=>HKw1.out.trans (kk.mono (by have:=HSZ.out; have:=HKw1.out.size; omega) (λi hi _=>by have:=HSZ.out; have:=HKw1.out.size; omega))
 have HM:=hid hM;clear hM;refine wp_region_held_drew (S:=λw9=>Kept (wa + 1) (wa + 1) w1 w9) (by kernel_rfl) (HM.out _ (Kept.refl _ _ _).drew) (λhH=>?_)
 have kD:Kept w1.heap.size w1.heap.size w1 w1.drew:=(Kept.refl _ _ _).drew;have hE:w1.drew.heap.size = w1.heap.size:=rfl;obtain⟨wd,hwd⟩:∃ wd,wd = w1.drew:=⟨_,rfl⟩;rw [<- hwd] at hH hE kD |-;clear hwd;have HE:=hid hE;clear hE;refine tkA (i:=0) 10 (.pointer (some ⟨wa,0,none⟩)) rfl (.inl ⟨by kernel_rfl,λw9 h9=>by go_simp⟩) hH ?_
 simp only [sA,sB,sC];refine tkA (i:=1) 11 (.int .i64 (lev:Int)) rfl (.inl ⟨by kernel_rfl,λw9 h9=>by obtain⟨c0,c1⟩:=HCL.out w9 h9; go_simp⟩) hH ?_
 simp only [sA,sB,sC];refine tkA (i:=2) 12 (.int .i64 ((lev + 1:Nat):Int)) rfl (.inl ⟨by kernel_rfl,λw9 h9=>by have hw:=HL1.out; go_simp⟩) hH ?_
 simp only [sA,sB,sC];refine tkA (i:=3) 13 (.pointer (some ⟨wa,1,none⟩)) rfl (.inl ⟨by kernel_rfl,λw9 h9=>by go_simp⟩) hH ?_
 simp only [sA,sB,sC];refine tkA (i:=4) 14 (.int .i64 (pl:Int)) rfl (.inl ⟨by kernel_rfl,λw9 h9=>by obtain⟨c0,c1⟩:=HCL.out w9 h9; go_simp⟩) hH ?_
 simp only [sA,sB,sC];refine tkA (i:=5) 15 (.int .i64 ((2 * pl:Nat):Int)) rfl (.inl ⟨by kernel_rfl,λw9 h9=>by have hw:=HP1.out; go_simp⟩) hH ?_
 simp only [sA,sB,sC];refine tkA (i:=6) 16 (.string sk) rfl (.inl ⟨by kernel_rfl,λw9 h9=>by go_simp⟩) hH ?_
 simp only [sA,sB,sC];refine wpAnyH_ready (rs:=[7]) (by kernel_rfl) (by simp) ?_
 refine AllReadyH.cons rfl (λK hK=>?_) AllReadyH.nil
 rw [if_pos (by rfl)]
 go_simp;have kA:Kept w1.heap.size w1.heap.size w1 (wd.alloc (.cells #[.string ⟨#[108,101,102,116]⟩,.string sk] 9)):=kD.alloc (by have:=HE.out; omega) _
 refine hK.out _ _ (HM.out _ kA) (λhH=>?_)
 clear hK K;refine wpAnyH_ready (rs:=[8]) (by kernel_rfl) (by simp) ?_
 refine AllReadyH.cons rfl (λK hK=>?_) AllReadyH.nil
 rw [if_pos (by rfl)]
 go_simp
 go_wp2_with (go_at_call 43; refine(HD1.out _).mono ?_; rintro e w3 ⟨rfl,k3⟩)
 have kB:Kept w1.heap.size w1.heap.size w1 w3:=kA.trans (k3.mono (by have:=HE.out; omega) (λi hi _=>by have:=HE.out; omega))
 refine hK.out _ _ (HM.out _ kB) (λhH=>?_)
 clear hK K k3 kA;refine wpAnyH_ready (rs:=[9]) (by kernel_rfl) (by simp) ?_
 refine AllReadyH.cons rfl (λK hK=>?_) AllReadyH.nil
 rw [if_pos (by rfl)]
 refine wp_build_three 101 _ _ _ rfl _ _ _ rfl rfl rfl (HB1.out _) ?_
 simp only [Act.put,List.setIfInBounds_toArray];refine hK.out _ _ (HM.out _ kB) (λhH=>?_)
 clear hK K;refine wpAnyH_ready (rs:=[10]) (by kernel_rfl) (by simp) ?_
 refine AllReadyH.cons rfl (λK hK=>?_) AllReadyH.nil
 rw [if_pos (by rfl)]
 have hz:w3.heap[wa + 1]? = some (.cells zeros34 101 (0,0)):=(kB.block _ (lt_of_block HRL.out) (Nat.ne_of_lt (lt_of_block HRL.out))).trans HRL.out
 refine wp_store_row 101 _ _ rfl (wa + 1) D1 rfl rfl 101 zeros34 hz HI1.out HY1.out HA1.out ?_
 simp only [Act.put];have kC:Kept (wa + 1) (wa + 1) w1 (w3.setRow (wa + 1) D1):=(HM.out _ kB).trans ⟨rfl,rfl,rfl,by simp [World.setRow],λk hk _=>setRow_other w3 (wa + 1) k D1 (by omega)⟩
 refine hK.out _ _ kC (λhH=>?_)
 clear hK K hH;refine wpAnyH_done (by kernel_rfl) ?_ _
 refine NoPanic.normal ?_;have rN:=setRow_heap w3 (wa + 1) zeros34 D1 _ _ hz;have oN:∀ k,k≠wa + 1->(w3.setRow (wa + 1) D1).heap[k]? = w3.heap[k]?:=λk hk=>setRow_other w3 (wa + 1) k D1 hk
 have zN:(w3.setRow (wa + 1) D1).heap[wa + 2]? = some (.cells zeros34 101 (0,0)):=(oN _ (by omega)).trans (rk HRR.out kB)
 generalize w3.setRow (wa + 1) D1 = w4 at kC rN zN |-;clear oN kB kD hz HE HM;have HKw4:=hid kC;have HRL':=hid rN;have HRR':=hid zN;clear HRL HRR kC rN zN;have HRL:=HRL';have HRR:=HRR';clear HRL' HRR'
 go_upto_region 3 with fail
 refine wp_region_noPanic ?_;have hM:∀ w9,Kept w4.heap.size w4.heap.size w4 w9->Kept (wa + 1) (wa + 1) w1 w9:=λw9 kk=>HKw4.out.trans (kk.mono (by have:=HSZ.out; have:=HKw4.out.size; omega) (λi hi _=>by have:=HSZ.out; have:=HKw4.out.size; omega))
 have HM:=hid hM;clear hM;refine wp_region_held_drew (S:=λw9=>Kept (wa + 1) (wa + 1) w1 w9) (by kernel_rfl) (HM.out _ (Kept.refl _ _ _).drew) (λhH=>?_)
 have kD:Kept w4.heap.size w4.heap.size w4 w4.drew:=(Kept.refl _ _ _).drew;have hE:w4.drew.heap.size = w4.heap.size:=rfl;obtain⟨wd,hwd⟩:∃ wd,wd = w4.drew:=⟨_,rfl⟩;rw [<- hwd] at hH hE kD |-;clear hwd;have HE:=hid hE;clear hE;refine tkA (i:=0) 20 (.pointer (some ⟨wa,0,none⟩)) rfl (.inl ⟨by kernel_rfl,λw9 h9=>by go_simp⟩) hH ?_
 simp only [sA,sB,sC];refine tkA (i:=1) 21 (.int .i64 (lev:Int)) rfl (.inl ⟨by kernel_rfl,λw9 h9=>by obtain⟨c0,c1⟩:=HCL.out w9 h9; go_simp⟩) hH ?_
 simp only [sA,sB,sC];refine tkA (i:=2) 22 (.int .i64 ((lev + 1:Nat):Int)) rfl (.inl ⟨by kernel_rfl,λw9 h9=>by have hw:=HL1.out; go_simp⟩) hH ?_
 simp only [sA,sB,sC];refine tkA (i:=3) 23 (.pointer (some ⟨wa,1,none⟩)) rfl (.inl ⟨by kernel_rfl,λw9 h9=>by go_simp⟩) hH ?_
 simp only [sA,sB,sC];refine tkA (i:=4) 24 (.int .i64 (pl:Int)) rfl (.inl ⟨by kernel_rfl,λw9 h9=>by obtain⟨c0,c1⟩:=HCL.out w9 h9; go_simp⟩) hH ?_
 simp only [sA,sB,sC];refine tkA (i:=5) 25 (.int .i64 ((2 * pl:Nat):Int)) rfl (.inl ⟨by kernel_rfl,λw9 h9=>by have hw:=HP1.out; go_simp⟩) hH ?_
 simp only [sA,sB,sC];refine tkA (i:=6) 26 (.int .i64 ((2 * pl + 1:Nat):Int)) rfl (.inl ⟨by kernel_rfl,λw9 h9=>by have hw:=HP2.out; go_simp; simpa using hw⟩) hH ?_
 simp only [sA,sB,sC];refine tkA (i:=7) 27 (.string sk) rfl (.inl ⟨by kernel_rfl,λw9 h9=>by go_simp⟩) hH ?_
 simp only [sA,sB,sC];refine wpAnyH_ready (rs:=[8]) (by kernel_rfl) (by simp) ?_
 refine AllReadyH.cons rfl (λK hK=>?_) AllReadyH.nil
 rw [if_pos (by rfl)]
 go_simp;have kA:Kept w4.heap.size w4.heap.size w4 (wd.alloc (.cells #[.string ⟨#[114,105,103,104,116]⟩,.string sk] 9)):=kD.alloc (by have:=HE.out; omega) _
 refine hK.out _ _ (HM.out _ kA) (λhH=>?_)
 clear hK K;refine wpAnyH_ready (rs:=[9]) (by kernel_rfl) (by simp) ?_
 refine AllReadyH.cons rfl (λK hK=>?_) AllReadyH.nil
 rw [if_pos (by rfl)]
 go_simp
 go_wp2_with (go_at_call 43; refine(HD2.out _).mono ?_; rintro e w3 ⟨rfl,k3⟩)
 have kB:Kept w4.heap.size w4.heap.size w4 w3:=kA.trans (k3.mono (by have:=HE.out; omega) (λi hi _=>by have:=HE.out; omega))
 refine hK.out _ _ (HM.out _ kB) (λhH=>?_)
 clear hK K k3 kA;refine wpAnyH_ready (rs:=[10]) (by kernel_rfl) (by simp) ?_
 refine AllReadyH.cons rfl (λK hK=>?_) AllReadyH.nil
 rw [if_pos (by rfl)]
 refine wp_build_three 101 _ _ _ rfl _ _ _ rfl rfl rfl (HB2.out _) ?_
 simp only [Act.put,List.setIfInBounds_toArray];refine hK.out _ _ (HM.out _ kB) (λhH=>?_)
 clear hK K;refine wpAnyH_ready (rs:=[11]) (by kernel_rfl) (by simp) ?_
 refine AllReadyH.cons rfl (λK hK=>?_) AllReadyH.nil
 rw [if_pos (by rfl)]
 have hz:w3.heap[wa + 2]? = some (.cells zeros34 101 (0,0)):=(kB.block _ (lt_of_block HRR.out) (Nat.ne_of_lt (lt_of_block HRR.out))).trans HRR.out
 refine wp_store_row 101 _ _ rfl (wa + 2) D2 rfl rfl 101 zeros34 hz HI2.out HY2.out HA2.out ?_
 simp only [Act.put];have kC:Kept (wa + 1) (wa + 1) w1 (w3.setRow (wa + 2) D2):=(HM.out _ kB).trans ⟨rfl,rfl,rfl,by simp [World.setRow],λk hk _=>setRow_other w3 (wa + 2) k D2 (by omega)⟩
 refine hK.out _ _ kC (λhH=>?_)
 clear hK K hH;refine wpAnyH_done (by kernel_rfl) ?_ _
 refine NoPanic.normal ?_;have rN:=setRow_heap w3 (wa + 2) zeros34 D2 _ _ hz;have oN:∀ k,k≠wa + 2->(w3.setRow (wa + 2) D2).heap[k]? = w3.heap[k]?:=λk hk=>setRow_other w3 (wa + 2) k D2 hk
 have zN:(w3.setRow (wa + 2) D2).heap[wa + 1]? = some (.cells D1 101 (0,0)):=(oN _ (by omega)).trans (rk HRL.out kB)
 generalize w3.setRow (wa + 2) D2 = w6 at kC rN zN |-;clear oN kB kD hz HE HM;have HKw6:=hid kC;have HRR':=hid rN;have HRL':=hid zN;clear HRL HRR kC rN zN;have HRL:=HRL';have HRR:=HRR';clear HRL' HRR';have HL6:=hid (HLS.out w6 HKw6.out);have HQ1:=hid (HR1.out w6 (wa + 1) HRL.out);have HQ2:=hid (HR2.out w6 (wa + 2) HRR.out)
 go_upto_region 4 with fail
 refine wp_region_lit ?_;iterate 2 (refine wW λK hK=>?_;go_simp;apply hK;clear hK K)
 refine wpList_load_known ?hwd2 26 _ rfl wa 2 rfl (.agg kc) HL6.out ?_
 case hwd2=>kernel_rfl
 simp only [Act.put,sA,sB,sC];refine wW λK hK=>?_;go_simp;apply hK;clear hK K;refine wpList_load_known ?hwd4 26 _ rfl (wa + 1) 2 rfl (.agg c1) HQ1.out ?_
 case hwd4=>kernel_rfl
 simp only [Act.put,sA,sB,sC];refine wW λK hK=>?_;go_simp;apply hK;clear hK K;refine wpList_load_known ?hwd6 26 _ rfl (wa + 2) 2 rfl (.agg c2) HQ2.out ?_
 case hwd6=>kernel_rfl
 simp only [Act.put,sA,sB,sC];refine wpList_build_two_g ?hwd7 _ _ 23 26 rfl i0 z0 Try.underlying23 HI0.out HZ0.out c1 c2 rfl rfl (by rw [HS0.out]; exact HZ1.out) (by rw [HS0.out]; exact HZ2.out) (by rw [HS0.out]; decide) (by rw [HS0.out]; decide) ?_
 case hwd7=>kernel_rfl
 simp only [Act.put,sA,sB,sC];have h6:(w6.alloc (.cells (c1 ++ c2) 26)).heap[w6.heap.size]? = some (.cells M12 26 (0,0)):=by rw [HMM.out]; exact heap_new _ _
 have k6:Kept w6.heap.size w6.heap.size w6 (w6.alloc (.cells (c1 ++ c2) 26)):=(Kept.refl _ _ _).alloc (Nat.le_refl _) _
 generalize w6.alloc (.cells (c1 ++ c2) 26) = w7 at k6 h6 |-
 have K7:=hid k6
 have kW7:Kept w.heap.size w.heap.size w w7:=by
  have e1:=HWA.out;have e2:=HSZ.out;have e3:=HKw6.out.size;rw [<- e1];exact HK1.out.trans ((HKw6.out.trans (k6.mono (by omega) (λk hk _=>by omega))).mono (by omega) (λk hk _=>by omega))
 have HQ:=hid (HQN.out w7 w6.heap.size (HBB.out.kept kW7) (Nat.le_trans HBASE.out kW7.size) kW7.size h6);have KW7:=hid kW7;clear kW7;obtain⟨g6,hg6⟩:∃ g6,g6 = w6.heap.size:=⟨_,rfl⟩;rw [<- hg6] at HQ |-;clear k6 h6 hg6;refine wW λK hK=>?_;go_simp;go_at_call 106; refine HQ.out.mono ?_; rintro e w8 ⟨rfl,q8,f8⟩
 apply hK;clear hK K;have RL8:=hid (f8.oth _ _ _ _ ((K7.out.block _ (lt_of_block HRL.out) (Nat.ne_of_lt (lt_of_block HRL.out))).trans HRL.out) (by decide) (by decide) (by decide))
 have RR8:=hid (f8.oth _ _ _ _ ((K7.out.block _ (lt_of_block HRR.out) (Nat.ne_of_lt (lt_of_block HRR.out))).trans HRR.out) (by decide) (by decide) (by decide))
 have F8:=hid ((BkFr.ofKept HBASE.out KW7.out).trans f8);have B8:=hid q8;clear q8 f8
 go_upto_region 5 with fail
 have hld:∀ w9:World,(w9.heap[wa + 1]? = some (.cells D1 101 (0,0))/\w9.heap[wa + 2]? = some (.cells D2 101 (0,0)))->(loadVar 101 ⟨wa + 1,0,none⟩).run Try.prog w9 = .ok (.agg D1) w9/\(loadVar 101 ⟨wa + 2,0,none⟩).run Try.prog w9 = .ok (.agg D2) w9:=λw9 h9=>
  ⟨run_loadVar_row w9 (wa + 1) 101 101 D1 (0,0) _ h9.1 Try.underlying101 rfl HI1.out,run_loadVar_row w9 (wa + 2) 101 101 D2 (0,0) _ h9.2 Try.underlying101 rfl HI2.out⟩
 have HLD:=hid hld;clear hld;refine wp_region_noPanic ?_;have kD:BkFr base w w8.drew:=F8.out.trans (BkFr.ofKept (F8.out.base HBASE.out) (Kept.refl _ _ _).drew);have bD:InBk w8.drew base bb fs2 (n + 3) X:=B8.out.kept (Kept.refl _ _ _).drew;have rD1:w8.drew.heap[wa + 1]? = some (.cells D1 101 (0,0)):=RL8.out
 have rD2:w8.drew.heap[wa + 2]? = some (.cells D2 101 (0,0)):=RR8.out
 refine wp_region_held_drew (S:=λw9=>w9.heap[wa + 1]? = some (.cells D1 101 (0,0))/\w9.heap[wa + 2]? = some (.cells D2 101 (0,0))) (by kernel_rfl) ⟨rD1,rD2⟩ (λhH=>?_)
 obtain⟨wd,hwd⟩:∃ wd,wd = w8.drew:=⟨_,rfl⟩;rw [<- hwd] at hH kD bD rD1 rD2 |-;clear hwd;refine tkA (i:=0) 40 (.agg D1) rfl (yieldsIf_load_known (by rfl) 101 _ rfl (wa + 1) 0 rfl (.agg D1) (λw9 h9=>(HLD.out w9 h9).1)) hH ?_
 simp only [sA,sB,sC];refine tkA (i:=1) 41 (.agg D2) rfl (yieldsIf_load_known (by rfl) 101 _ rfl (wa + 2) 0 rfl (.agg D2) (λw9 h9=>(HLD.out w9 h9).2)) hH ?_
 simp only [sA,sB,sC];refine wpAnyH_ready (rs:=[2]) (by kernel_rfl) (by simp) ?_
 refine AllReadyH.cons rfl (λK hK=>?_) AllReadyH.nil
 rw [if_pos (by rfl)]
 refine wp_store_row 101 _ _ rfl (wa + 1) D1 rfl rfl 101 D1 rD1 HI1.out rfl HA1.out ?_
 simp only [Act.put];have kE:BkFr base w (wd.setRow (wa + 1) D1):=kD.put HBASE.out (wa + 1) (by have:=HWA.out; omega) D1
 have bE:InBk (wd.setRow (wa + 1) D1) base bb fs2 (n + 3) X:=bD.stayG (StayG.setRow rD1 D1) (by decide) (by decide) (by decide) (by decide)
 have rE1:=setRow_heap wd (wa + 1) D1 D1 _ _ rD1;have rE2:=(setRow_other wd (wa + 1) (wa + 2) D1 (by omega)).trans rD2
 generalize wd.setRow (wa + 1) D1 = we at kE bE rE1 rE2 |-;refine hK.out _ _ ⟨rE1,rE2⟩ (λhH=>?_)
 clear hK K;refine wpAnyH_ready (rs:=[3]) (by kernel_rfl) (by simp) ?_
 refine AllReadyH.cons rfl (λK hK=>?_) AllReadyH.nil
 rw [if_pos (by rfl)]
 refine wp_store_row 101 _ _ rfl (wa + 2) D2 rfl rfl 101 D2 rE2 HI2.out rfl HA2.out ?_
 simp only [Act.put];have kF:BkFr base w (we.setRow (wa + 2) D2):=kE.put HBASE.out (wa + 2) (by have:=HWA.out; omega) D2
 have bF:InBk (we.setRow (wa + 2) D2) base bb fs2 (n + 3) X:=bE.stayG (StayG.setRow rE2 D2) (by decide) (by decide) (by decide) (by decide)
 have rF2:=setRow_heap we (wa + 2) D2 D2 _ _ rE2;have rF1:=(setRow_other we (wa + 2) (wa + 1) D2 (by omega)).trans rE1
 generalize we.setRow (wa + 2) D2 = wf at kF bF rF1 rF2 |-;refine hK.out _ _ ⟨rF1,rF2⟩ (λhH=>?_)
 clear hK K hH;refine wpAnyH_done (by kernel_rfl) ?_ _
 refine NoPanic.normal ?_;have hi1:=HI1.out;have hi2:=HI2.out
 go_wp2_with fail
 refine bodyPost_ret (results_two_rows rfl _ _ (wa + 1) (wa + 2) _ _ D1 D2 (0,0) (0,0) _ rfl rfl rF1 rF2 Try.underlying101 rfl hi1 hi2) rfl ?_
 exact⟨rfl,bF,kF⟩
theorem OwnS.bk {w w':World}{base b:Nat}{v:Value}{L:List Sd}(h:OwnS w base v L)(k:BkFr b w w'):OwnS w' base v L:=by
 refine⟨h.1,h.2.1,?_⟩
 rcases h.2.2 with h1 | ⟨g,cap,cur,rfl,hb2,hh,rest⟩
 ·exact .inl h1
 ·exact .inr ⟨g,cap,cur,rfl,hb2,k.oth _ _ _ _ hh (by decide) (by decide) (by decide),rest⟩
theorem BkFr.high {base:Nat}{w0 w w':World}{row:Option Nat}(h:BkFr base w0 w)(hb:base<=w0.heap.size)(hg:w.grownBy w' row)(hr:∀ k,row = some k->w0.heap.size<=k):BkFr base w0 w':=
 ⟨h.kept.trans ⟨hg.os,hg.tape,hg.output,hg.size,λk hk _=>hg.block k (by have:=h.kept.size; omega) (λe=>by have:=hr k e.symm; omega)⟩,λk cs t fr hh a b c=>by
  have h1:=lt_of_block hh;rw [hg.block k (by have:=h.kept.size; omega) (λe=>by have:=hr k e.symm; omega)]
  exact h.oth k cs t fr hh a b c⟩
namespace Pp
def wfacts (bits pl:Nat):Nat->Sd->Facts->Facts
 | 0,s,fs=>Bk.note fs ([s.self],[key s.self])
 | n + 1,s,fs=>if pl < start bits (right s) then wfacts bits pl n (left s) (Bk.note fs ([s.self],[(left s).self,(right s).self])) else wfacts bits pl n (right s) (Bk.note fs ([s.self],[(left s).self,(right s).self]))
end Pp
structure WkB (base bb n:Nat) (fs:Facts) (X:Nat->Prop) (w0 w:World) (wa rb bits:Nat) (sl v10 v11:Value) (D:Array Value) (lf rt:List Sd):Prop where
 cur:w.heap[wa]? = some (.cells D 101 (0,0))
 res:w.heap[wa + 1]? = some (.cells zeros32 26 (0,0))
 row:w.heap[rb]? = some (.cells #[.int .i64 (bits:Int),sl] 104 (0,0))
 lefts:OwnS w (wa + 2) v10 lf
 rights:OwnS w (wa + 2) v11 rt
 apart:∀ k,v10.ownBlock = some k->v11.ownBlock≠some k
 frame:BkFr base w0 w
 bk:InBk w base bb fs n (λi=>X i\/i = wa + 1)
 size:wa + 2<=w.heap.size
 below:rb < wa
 w0s:wa = w0.heap.size
 lo:base<=w0.heap.size
variable {base bb n n':Nat} {fs fs':Facts} {X:Nat->Prop} {w0 w w':World} {wa rb bits:Nat} {sl v10 v11 u:Value} {D:Array Value} {lf rt M:List Sd}
theorem WkB.lob (h:WkB base bb n fs X w0 w wa rb bits sl v10 v11 D lf rt):base<=w.heap.size:=h.frame.base h.lo
theorem WkB.xlt (h:WkB base bb n fs X w0 w wa rb bits sl v10 v11 D lf rt)(hX:∀ k,X k->k < w0.heap.size):∀ k,(X k\/k = wa + 1)->k < w.heap.size:=λk hk=>by
 have h1:=h.frame.kept.size;have h2:=h.size
 rcases hk with hk | rfl
 ·have:=hX k hk; omega
 ·omega
theorem WkB.stepB (h:WkB base bb n fs X w0 w wa rb bits sl v10 v11 D lf rt)(hB:InBk w' base bb fs' n' (λi=>X i\/i = wa + 1))(f:BkFr base w w'):WkB base bb n' fs' X w0 w' wa rb bits sl v10 v11 D lf rt where
 cur:=f.oth _ _ _ _ h.cur (by decide) (by decide) (by decide)
 res:=f.oth _ _ _ _ h.res (by decide) (by decide) (by decide)
 row:=f.oth _ _ _ _ h.row (by decide) (by decide) (by decide)
 lefts:=h.lefts.bk f
 rights:=h.rights.bk f
 apart:=h.apart
 frame:=h.frame.trans f
 bk:=hB
 size:=Nat.le_trans h.size f.kept.size
 below:=h.below
 w0s:=h.w0s
 lo:=h.lo
theorem WkB.step (h:WkB base bb n fs X w0 w wa rb bits sl v10 v11 D lf rt)(k:Kept w.heap.size w.heap.size w w'):WkB base bb n fs X w0 w' wa rb bits sl v10 v11 D lf rt:=
 h.stepB (h.bk.kept k) (BkFr.ofKept h.lob k)
theorem WkB.alloc (h:WkB base bb n fs X w0 w wa rb bits sl v10 v11 D lf rt)(o:Obj):WkB base bb n fs X w0 (w.alloc o) wa rb bits sl v10 v11 D lf rt:=h.step ((Kept.refl _ _ _).alloc (Nat.le_refl _) o)
theorem WkB.setcur (h:WkB base bb n fs X w0 w wa rb bits sl v10 v11 D lf rt)(D':Array Value):WkB base bb n fs X w0 (w.setRow wa D') wa rb bits sl v10 v11 D' lf rt where
 cur:=setRow_heap w wa D D' _ _ h.cur
 res:=(setRow_other w wa (wa + 1) D' (by omega)).trans h.res
 row:=(setRow_other w wa rb D' (by have:=h.below; omega)).trans h.row
 lefts:=h.lefts.stay (λk hk=>setRow_other w wa k D' (by have:=(h.lefts.lt k hk).1; omega))
 rights:=h.rights.stay (λk hk=>setRow_other w wa k D' (by have:=(h.rights.lt k hk).1; omega))
 apart:=h.apart
 frame:=h.frame.put h.lo wa (by have:=h.w0s; omega) D'
 bk:=h.bk.stayG (StayG.setRow h.cur D') (by decide) (by decide) (by decide) (by decide)
 size:=by have:=h.size; simpa [World.setRow] using this
 below:=h.below
 w0s:=h.w0s
 lo:=h.lo
theorem WkB.setnew (h:WkB base bb n fs X w0 w wa rb bits sl v10 v11 D lf rt)(b:Nat)(hb:wa + 2<=b)(h1:v10.ownBlock≠some b)(h2:v11.ownBlock≠some b){old:Array Value}(hr:w.heap[b]? = some (.cells old 101 (0,0)))(cs:Array Value):WkB base bb n fs X w0 (w.setRow b cs) wa rb bits sl v10 v11 D lf rt where
 cur:=(setRow_other w b wa cs (by omega)).trans h.cur
 res:=(setRow_other w b (wa + 1) cs (by omega)).trans h.res
 row:=(setRow_other w b rb cs (by have:=h.below; omega)).trans h.row
 lefts:=h.lefts.stay (λk hk=>setRow_other w b k cs (λe=>h1 (by rw [hk,e])))
 rights:=h.rights.stay (λk hk=>setRow_other w b k cs (λe=>h2 (by rw [hk,e])))
 apart:=h.apart
 frame:=h.frame.put h.lo b (by have:=h.w0s; omega) cs
 bk:=h.bk.stayG (StayG.setRow hr cs) (by decide) (by decide) (by decide) (by decide)
 size:=by have:=h.size; simpa [World.setRow] using this
 below:=h.below
 w0s:=h.w0s
 lo:=h.lo
theorem WkB.left (h:WkB base bb n fs X w0 w wa rb bits sl v10 v11 D lf rt)(ho:OwnS w' (wa + 2) u M)(hg:w.grownBy w' v10.ownBlock)(hb:u.ownBlock = v10.ownBlock\/u.ownBlock = some w.heap.size):WkB base bb n fs X w0 w' wa rb bits sl u v11 D M rt where
 cur:=(hg.block wa (lt_of_block h.cur) (λe=>by have:=(h.lefts.lt _ e.symm).1; omega)).trans h.cur
 res:=(hg.block (wa + 1) (lt_of_block h.res) (λe=>by have:=(h.lefts.lt _ e.symm).1; omega)).trans h.res
 row:=(hg.block rb (lt_of_block h.row) (λe=>by have:=(h.lefts.lt _ e.symm).1; have:=h.below; omega)).trans h.row
 lefts:=ho
 rights:=h.rights.stay (λk hk=>hg.block k (h.rights.lt k hk).2 (λe=>h.apart k e.symm hk))
 apart:=λk hk hk2=>by
  rcases hb with hb | hb
  ·exact h.apart k (hb ▸ hk) hk2
  ·rw [hb] at hk
   have:=(h.rights.lt k hk2).2
   cases hk
   omega
 frame:=h.frame.high h.lo hg (λk e=>by have:=(h.lefts.lt _ e).1; have:=h.w0s; omega)
 bk:=h.bk.stayG (StayG.grown h.lefts.2 hg) (by decide) (by decide) (by decide) (by decide)
 size:=Nat.le_trans h.size hg.size
 below:=h.below
 w0s:=h.w0s
 lo:=h.lo
theorem WkB.right (h:WkB base bb n fs X w0 w wa rb bits sl v10 v11 D lf rt)(ho:OwnS w' (wa + 2) u M)(hg:w.grownBy w' v11.ownBlock)(hb:u.ownBlock = v11.ownBlock\/u.ownBlock = some w.heap.size):WkB base bb n fs X w0 w' wa rb bits sl v10 u D lf M where
 cur:=(hg.block wa (lt_of_block h.cur) (λe=>by have:=(h.rights.lt _ e.symm).1; omega)).trans h.cur
 res:=(hg.block (wa + 1) (lt_of_block h.res) (λe=>by have:=(h.rights.lt _ e.symm).1; omega)).trans h.res
 row:=(hg.block rb (lt_of_block h.row) (λe=>by have:=(h.rights.lt _ e.symm).1; have:=h.below; omega)).trans h.row
 lefts:=h.lefts.stay (λk hk=>hg.block k (h.lefts.lt k hk).2 (λe=>h.apart k hk e.symm))
 rights:=ho
 apart:=λk hk hk2=>by
  rcases hb with hb | hb
  ·exact h.apart k hk (hb ▸ hk2)
  ·rw [hb] at hk2
   have:=(h.lefts.lt k hk).2
   cases hk2
   omega
 frame:=h.frame.high h.lo hg (λk e=>by have:=(h.rights.lt _ e).1; have:=h.w0s; omega)
 bk:=h.bk.stayG (StayG.grown h.rights.2 hg) (by decide) (by decide) (by decide) (by decide)
 size:=Nat.le_trans h.size hg.size
 below:=h.below
 w0s:=h.w0s
 lo:=h.lo
theorem wkb_start (base bb n:Nat)(fs:Facts)(X:Nat->Prop)(w:World)(D:Array Value)(rb bits:Nat)(sl:Value)(hr:w.heap[rb]? = some (.cells #[.int .i64 (bits:Int),sl] 104 (0,0)))(hB:InBk w base bb fs n X)(hbase:base<=w.heap.size):
  WkB base bb n fs X w ((w.alloc (.cells D 101)).alloc (.cells zeros32 26)) w.heap.size rb bits sl (.slice none 0 0) (.slice none 0 0) D [] [] where
 cur:=(Below.heap_alloc _ _ _ (by simp)).trans (heap_new _ _)
 res:=by
  have:=heap_new (w.alloc (.cells D 101)) (.cells zeros32 26)
  rwa [World.size_alloc] at this
 row:=(Below.heap_alloc _ _ _ (by have:=lt_of_block hr; simp; omega)).trans ((Below.heap_alloc _ _ _ (lt_of_block hr)).trans hr)
 lefts:=OwnS.nil _ _
 rights:=OwnS.nil _ _
 apart:=λk h=>by cases h
 frame:=BkFr.ofKept hbase (((Kept.refl _ _ _).alloc (Nat.le_refl _) _).alloc (by simp) _)
 bk:=(hB.freshOr (λi=>i = w.heap.size + 1) (λi hi=>by omega)).kept (((Kept.refl _ _ _).alloc (Nat.le_refl _) _).alloc (by simp) _)
 size:=by simp
 below:=lt_of_block hr
 w0s:=rfl
 lo:=hbase
theorem OwnS.typ {w:World}{base:Nat}{v:Value}{L:List Sd}(h:OwnS w base v L){k:Nat}(hk:v.ownBlock = some k):∃ cs fr,w.heap[k]? = some (.cells cs 101 fr):=by
 rcases h.2.2 with ⟨rfl,_⟩ | ⟨g,cap,cur,rfl,_,hh,_⟩
 ·simp [Value.ownBlock] at hk
 ·simp [Value.ownBlock] at hk
  subst hk;exact⟨_,_,hh⟩
def NearT (w w':World)(sl sl':Value):Prop:=∀ k,sl'.ownBlock = some k->sl.ownBlock = some k\/(w.heap.size<=k/\∃ cs fr,w'.heap[k]? = some (.cells cs 101 fr))
def Typ (w:World)(sl:Value):Prop:=∀ k,sl.ownBlock = some k->∃ cs fr,w.heap[k]? = some (.cells cs 101 fr)
theorem Typ.kept {w w':World}{sl:Value}(h:Typ w sl)(k:Kept w.heap.size w.heap.size w w'):Typ w' sl:=λb hb=>by
 obtain⟨cs,fr,hh⟩:=h b hb;exact⟨cs,fr,rk hh k⟩
theorem Typ.bk {w w':World}{base:Nat}{sl:Value}(h:Typ w sl)(k:BkFr base w w'):Typ w' sl:=λb hb=>by
 obtain⟨cs,fr,hh⟩:=h b hb;exact⟨cs,fr,k.oth _ _ _ _ hh (by decide) (by decide) (by decide)⟩
theorem RowIs.bk {w w':World}{rb bits base:Nat}{sl:Value}{L:List Sd}(h:RowIs w rb bits sl L)(ht:Typ w sl)(k:BkFr base w w'):RowIs w' rb bits sl L:=by
 refine⟨k.oth _ _ _ _ h.1 (by decide) (by decide) (by decide),?_⟩
 obtain⟨ad,g,o,c,rfl,h3,h4⟩:=h.2;refine⟨ad,g,o,c,rfl,λi hi=>?_,h4⟩
 obtain⟨rfl,a2,a3⟩:=h3 i hi;obtain⟨cs,fr,hh⟩:=ht g rfl;refine⟨rfl,Nat.lt_of_lt_of_le a2 k.kept.size,λj u hu=>?_⟩
 rw [World.cell?_of_block (w:=w) ((k.oth _ _ _ _ hh (by decide) (by decide) (by decide)).trans hh.symm)]
 exact a3 j u hu
theorem Ss.bk {w w':World}{base:Nat}{v:Value}{M:List Sd}(h:Ss w v M)(ht:Typ w v)(k:BkFr base w w'):Ss w' v M:=by
 obtain⟨ad,g,o,c,rfl,h3,h4⟩:=h;refine⟨ad,g,o,c,rfl,λi hi=>?_,h4⟩
 obtain⟨rfl,a2,a3⟩:=h3 i hi;obtain⟨cs,fr,hh⟩:=ht g rfl;refine⟨rfl,Nat.lt_of_lt_of_le a2 k.kept.size,λj u hu=>?_⟩
 rw [World.cell?_of_block (w:=w) ((k.oth _ _ _ _ hh (by decide) (by decide) (by decide)).trans hh.symm)]
 exact a3 j u hu
structure BkBut (base rb:Nat) (w w':World):Prop where
 kept:Kept base base w w'
 oth:∀ (k:Nat) (cs:Array Value) (t:TypeId) (fr:Nat × Nat),k≠rb->w.heap[k]? = some (.cells cs t fr)->t≠85->t≠3->t≠122->w'.heap[k]? = some (.cells cs t fr)
theorem BkFr.but {base rb:Nat}{w w':World}(h:BkFr base w w'):BkBut base rb w w':=⟨h.kept,λk cs t fr _ hh=>h.oth k cs t fr hh⟩
theorem BkBut.trans {base rb:Nat}{w1 w2 w3:World}(h:BkBut base rb w1 w2)(k:BkBut base rb w2 w3):BkBut base rb w1 w3:=⟨h.kept.trans k.kept,λi cs t fr hn hh h1 h2 h3=>k.oth i cs t fr hn (h.oth i cs t fr hn hh h1 h2 h3) h1 h2 h3⟩
theorem BkBut.of {base rb:Nat}{w w':World}(hb:base<=w.heap.size)(hr:base<=rb)(k:Kept w.heap.size rb w w'):BkBut base rb w w':=⟨k.mono hb (λi hi _=>by omega),λi cs t fr hn hh _ _ _=>(k.block i (lt_of_block hh) hn).trans hh⟩
theorem two_appendsT (w:World)(A M B:List Sd)(hA:∀ x∈A,x.self.length = 32)(hM:∀ x∈M,x.self.length = 32)(hB:∀ x∈B,x.self.length = 32)(ga oa:Nat)(hga:ga < w.heap.size)(ha:∀ i (hi:i < A.length),w.rangeAt ga (oa + i * 34) (Pp.cells A[i]))
  (v:Value) (hv:Ss w v M) (gb ob cb:Nat) (hgb:gb < w.heap.size) (hb:∀ i (hi:i < B.length),w.rangeAt gb (ob + i * 34) (Pp.cells B[i])) (hl:A.length + M.length + B.length < 1073741824) :
  ∃ v1 w1,(Builtin.append_ #[102,102] 102 #[.slice (some ⟨ga,oa,none⟩) A.length A.length,v]).run Try.prog w = .ok v1 w1 /\
  ∃ v2 w2,(Builtin.append_ #[102,102] 102 #[v1,.slice (some ⟨gb,ob,none⟩) B.length cb]).run Try.prog w1 = .ok v2 w2/\Ss w2 v2 (A ++ M ++ B)/\Kept w.heap.size w.heap.size w w2/\∀ k,v2.ownBlock = some k->k = ga\/(w.heap.size<=k/\∃ cs fr,w2.heap[k]? = some (.cells cs 101 fr)):=by
 obtain⟨ad,g,o,c,rfl,hm,_⟩:=hv
 rcases Nat.eq_zero_or_pos M.length with hM0 | hM0
 ·obtain rfl:=List.length_eq_zero_iff.1 hM0
  refine⟨.slice (some ⟨ga,oa,none⟩) A.length A.length,w,?_,?_⟩
  ·cases ad with
   | none=>exact app_nil w _ _ _ (Nat.le_refl _) c
   | some q=>exact app_none w _ _ _ (Nat.le_refl _) q c
  ·rcases Nat.eq_zero_or_pos B.length with hB0 | hB0
   ·obtain rfl:=List.length_eq_zero_iff.1 hB0
    refine⟨_,w,app_none w _ _ _ (Nat.le_refl _) _ cb,?_,Kept.refl _ _ _,λk hk=>.inl (by simpa [Value.ownBlock] using hk.symm)⟩
    simp only [List.append_nil];exact⟨some ⟨ga,oa,none⟩,ga,oa,A.length,rfl,λi hi=>⟨rfl,hga,ha i hi⟩,Nat.le_refl _⟩
   ·obtain⟨v2,w2,h1,h2,h3⟩:=append_full w ga oa A hA ha gb ob cb B hB hb hB0 (by omega)
    refine⟨v2,w2,h1,?_,h3,λk hk=>.inr ⟨(h2.2.lt k hk).1,h2.typ hk⟩⟩
    rw [List.append_nil];exact h2.ss
 ·obtain⟨rfl,hgm,_⟩:=hm 0 hM0
  obtain⟨v1,w1,h1,h2,k1⟩:=append_full w ga oa A hA ha g o c M hM (λi hi=>(hm i hi).2.2) hM0 (by omega)
  obtain⟨v2,w2,h3,h4,h5⟩:=append_seeds w1 w.heap.size v1 (A ++ M) h2 k1.size gb ob cb B hB (λi hi=>rangeAt_kept k1 (hb i hi) hgb (Nat.ne_of_lt hgb)) (by rw [List.length_append]; omega)
  refine⟨v1,w1,h1,v2,w2,h3,h4.ss,k1.trans ⟨h5.os,h5.tape,h5.output,h5.size,λk hk _=>h5.block k (Nat.lt_of_lt_of_le hk k1.size) λe=>?_⟩,λk hk=>.inr ⟨(h4.2.lt k hk).1,h4.typ hk⟩⟩
  have:=(h2.2.lt k e.symm).1
  omega
theorem replace_callsT (bits:Nat)(A B M:List Sd)(s:Sd)(hA:∀ x∈A,x.self.length = 32)(hM:∀ x∈M,x.self.length = 32)(hB:∀ x∈B,x.self.length = 32)(rb:Nat)(sl v:Value)(w:World)(hR:RowIs w rb bits sl (A ++ s :: B))(hv:Ss w v M)(hl:A.length + M.length + B.length < 1073741824):Calls Try.prog 61 #[.pointer (some ⟨rb,0,none⟩),.int .i64 (A.length:Int),v] w λe w'=>e = .returned (.tuple #[])/\∃ sl',RowIs w' rb bits sl' (A ++ M ++ B)/\Kept w.heap.size rb w w'/\NearT w w' sl sl':=by
 obtain⟨hrow,ad,g,o,c,rfl,h1,hc⟩:=hR;have hn:(A ++ s :: B).length = A.length + B.length + 1:=by simp; omega
 obtain⟨rfl,hg,hgx⟩:=h1 A.length (by omega)
 clear hgx
 have hra:∀ i (hi:i < A.length),w.rangeAt g (o + i * 34) (Pp.cells A[i]):=λi hi=>by
  have:=(h1 i (by omega)).2.2
  rwa [List.getElem_append_left hi] at this
 have hrb:∀ i (hi:i < B.length),w.rangeAt g (o + (A.length + 1) * 34 + i * 34) (Pp.cells B[i]):=λi hi=>by
  have:=(h1 (A.length + 1 + i) (by omega)).2.2
  rw [List.getElem_append_right (by omega)] at this
  simp only [show A.length + 1 + i - A.length = i + 1 by omega,List.getElem_cons_succ] at this
  rwa [show o + (A.length + 1) * 34 + i * 34 = o + (A.length + 1 + i) * 34 by omega]
 have hob:∃ ob,(if c = A.length + 1 then some (⟨g,o,none⟩:Addr) else some ⟨g,o + (A.length + 1) * 34,none⟩) = some ⟨g,ob,none⟩/\∀ i (hi:i < B.length),w.rangeAt g (ob + i * 34) (Pp.cells B[i]):=by
  by_cases h:c = A.length + 1
  ·exact⟨o,by rw [if_pos h],λi hi=>absurd hi (by omega)⟩
  ·exact⟨_,by rw [if_neg h],hrb⟩
 obtain⟨ob,hob,hrc⟩:=hob;have hta:=two_appendsT w A M B hA hM hB g o hg hra v hv g ob (c - (A.length + 1)) hg hrc hl;obtain⟨v1,w1,r1,v2,w2,r2,hs2,k2,hnr⟩:=hta;have HNR:=hid (show NearT w w2 (.slice (some ⟨g,o,none⟩) (A ++ s :: B).length c) v2 from λk hk=>(hnr k hk).imp (λe=>by rw [e]; rfl) id)
 clear hnr;obtain⟨mad,mg,mo,mc,rfl,hq1,hq2⟩:=hv;clear hq1 hq2;rw [hn] at hrow hc HNR;clear h1 hra hrb hn hrc
 have hv2:∃ ad2 n2 c2,v2 = .slice ad2 n2 c2:=by
  obtain⟨ad2,g2,o2,c2,h,_⟩:=hs2;exact⟨_,_,_,h⟩
 obtain⟨ad2,n2,c2,rfl⟩:=hv2
 have hall:∀ s∈A ++ M ++ B,s.self.length = 32:=λx hx=>by
  rcases List.mem_append.1 hx with h | h
  ·rcases List.mem_append.1 h with h | h
   ·exact hA x h
   ·exact hM x h
  ·exact hB x h
 have HAL:=hid hall;clear hall;have HS2:=hid hs2;have HK2:=hid k2;clear hs2 k2;generalize hal:A.length = a at *;generalize hbl:B.length = b at *;generalize M.length = m at *
 have hw1:IntKind.i64.wrap ((a:Int) + 1) = ((a + 1:Nat):Int):=by
  rw [IntKind.wrap_i64]
  omega
 have c0:=two_cell1 hrow;have RR1:=hid r1;have RR2:=hid r2;have HROW:=hid hrow;have HW1:=hid hw1;have HOB:=hid hob;have hac:a<=c:=by omega
 have hab:a + 1<=a + b + 1:=by omega
 clear r1 r2 hrow hal hbl hA hM hB hw1 hg hl hob
 go_enter Try.func61,Try.ntmps61
 go_upto_region 0 with fail
 refine wp_region_lit ?_;iterate 8 (refine wW λK hK=>?_;go_simp;apply hK;clear hK K)
 go_upto_region 1 with fail
 refine wp_region_lit ?_;iterate 5 (refine wW λK hK=>?_;go_simp;apply hK;clear hK K)
 refine wW λK hK=>?_;go_simp;rw [HW1.out];apply hK;clear hK K;refine wW λK hK=>?_;go_simp;rw [if_pos (by omega),HOB.out]
 go_simp;apply hK;clear hK K;refine wW λK hK=>?_;go_simp;apply hK;clear hK K;clear c0 hac hab;have hr2:w2.heap[rb]? = some (.cells #[.int .i64 (bits:Int),.slice (some ⟨g,o,none⟩) (a + b + 1) c] 104 (0,0)):=(HK2.out.block rb (lt_of_block HROW.out) (Nat.ne_of_lt (lt_of_block HROW.out))).trans HROW.out
 have c1:=two_cell1 hr2;have f1:w2.frozen? ⟨rb,1,none⟩ = false:=by simp [World.frozen?,hr2]
 have HR2:=hid hr2;clear hr2
 go_upto_region 2 with fail
 refine wp_region_lit ?_;iterate 3 (refine wW λK hK=>?_;go_simp;apply hK;clear hK K)
 refine wpList_append_known rfl _ _ 102 102 102 rfl rfl (.slice (some ⟨g,o,none⟩) a a) (.slice mad m mc) rfl rfl RR1.out ?_
 simp only [Act.put,sA,sB,sC];refine wW λK hK=>?_;go_simp;apply hK;clear hK K;refine wpList_append_known rfl _ _ 102 102 102 rfl rfl v1 (.slice (some ⟨g,ob,none⟩) b (c - (a + 1))) rfl rfl RR2.out ?_
 simp only [Act.put,sA,sB,sC];iterate 3 (refine wW λK hK=>?_;go_simp;apply hK;clear hK K)
 go_wp2
 go_end0
 refine⟨rfl,.slice ad2 n2 c2,⟨?_,ss_set HR2.out HAL.out HS2.out 1 _⟩,?_,λk hk=>(HNR.out k hk).imp id (λh=>⟨h.1,by
  obtain⟨cs,fr,hh⟩:=h.2
  exact⟨cs,fr,(setCell_other _ _ _ _ _ (by have:=lt_of_block HROW.out; omega)).trans hh⟩⟩)⟩
 ·have h:=HR2.out
  simp only [World.setCell];rw [Array.getElem?_modify];simp [h]
 ·refine⟨HK2.out.os,HK2.out.tape,HK2.out.output,by simpa [World.setCell] using HK2.out.size,λk hk hkb=>?_⟩
  simp only [World.setCell];rw [Array.getElem?_modify,if_neg (Ne.symm hkb)];exact HK2.out.block k hk (Nat.ne_of_lt hk)
theorem walk_bookX (base bb n0:Nat)(fs0:Facts)(X:Nat->Prop)(bits:Nat)(hb:bits<=32)(s0:Sd)(hs0:Pp.In bits s0)(pl:Nat)(rb:Nat)(sl:Value)(w:World)(hr:w.heap[rb]? = some (.cells #[.int .i64 (bits:Int),sl] 104 (0,0)))(hbk:InBk w base bb fs0 n0 X)(hbase:base<=w.heap.size)(hX:∀ k,X k->k < w.heap.size)(hmk:MildK (3 * (bits - s0.level) + 3) fs0 n0):
  Calls Try.prog 60 #[.pointer (some ⟨rb,0,none⟩),.pointer (some ⟨bb,0,none⟩),.agg (Pp.cells s0).toArray,.int .i64 (pl:Int)] w λe w'=>∃ v,e = .returned (.tuple #[.agg (bcells (Pp.key (Pp.leaf bits pl (bits - s0.level) s0).self)).toArray,v])/\Ss w' v (Pp.beside bits pl (bits - s0.level) s0)/\InBk w' base bb (Pp.wfacts bits pl (bits - s0.level) s0 fs0) (n0 + (3 * (bits - s0.level) + 3)) X/\BkFr base w w':=by
 obtain⟨FW,hFW⟩:∃ FW,FW = Pp.wfacts bits pl (bits - s0.level) s0 fs0:=⟨_,rfl⟩;obtain⟨NT,hNT⟩:∃ NT,NT = n0 + (3 * (bits - s0.level) + 3):=⟨_,rfl⟩;rw [<- hFW,<- hNT];have HFW0:=hid hFW;have HNT0:=hid hNT;have HMK0:=hid hmk;have HXX:=hid hX;have HBASE:=hid hbase;have hleaf:=Pp.walk_leaf bits pl (bits - s0.level) s0 [] [];have hbes:=Pp.walk_beside bits pl (bits - s0.level) s0 [] [];rw [List.nil_append,List.reverse_nil,List.append_nil] at hbes;rw [<- hleaf,<- hbes];obtain⟨WK,hWK⟩:∃ WK,WK = Pp.walk bits pl (bits - s0.level) s0 [] []:=⟨_,rfl⟩;rw [<- hWK];have hD34':=cells_array hs0;have hW0:=wkb_start base bb n0 fs0 X w (Pp.cells s0).toArray rb bits sl hr hbk hbase;obtain⟨D0,hD0⟩:∃ D0,D0 = (Pp.cells s0).toArray:=⟨_,rfl⟩;rw [<- hD0] at hD34' hW0 |-;obtain⟨i0,z0,hi0,hz0,hzs0,his0,hby0⟩:=seed_full;have HI0:=hid hi0;have HZ0:=hid hz0;have HIS:=hid his0;have HD0:=hid hD0;have HWK0:=hid hWK;have H34:=hid hD34';have HIN0:=hid hs0;have HW0:=hid hW0;have HB:=hid hb;clear hleaf hbes hWK hD34' hW0 hD0 hi0 hz0 hzs0 his0 hby0 hs0 hb hr hFW hNT hmk hX hbase hbk
 go_enter Try.func60,Try.ntmps60
 go_upto_region 1 with fail
 rw [zeros32_eq];generalize (w.alloc (.cells D0 101)).alloc (.cells zeros32 26) = w1 at HW0 |-
 obtain⟨wa,hwa⟩:∃ wa,wa = w.heap.size:=⟨_,rfl⟩;rw [<- hwa] at HW0 |-;have HWA:=hid hwa;clear hwa
 go_wp2_with fail
 go_loopw [10,11] (λs10 s11 wr=>∃ (n:Nat) (s:Sd) (lf rt:List Sd) (D:Array Value) (fs:Facts) (nn:Nat),Hid (D = (Pp.cells s).toArray)/\Hid (s.level + n = bits)/\Hid (Pp.In bits s)/\Hid (Pp.walk bits pl n s lf rt = WK)/\Hid (lf.length + rt.length + n<=32)/\Hid (MildK (3 * n + 3) fs nn)/\Hid (nn + (3 * n + 3) = NT)/\Hid (Pp.wfacts bits pl n s fs = FW)/\Hid (WkB base bb nn fs X w wr wa rb bits sl s10 s11 D lf rt)) (λ_ _ wr=>bits - levAt wr wa)
 case atStart=>exact⟨bits - s0.level,s0,[],[],D0,fs0,n0,HD0,hid (by have:=HIN0.out.1; omega),HIN0,hid HWK0.out.symm,hid (by have:=HB.out; simp; omega),HMK0,hid HNT0.out.symm,hid HFW0.out.symm,HW0⟩
 case round=>
  clear HD0 HWK0 H34 HIN0 HW0 HFW0 HNT0 HMK0;obtain⟨n,s,lf,rt,D,fs,nn,HD,HN,HIN,HWK,HLEN,HMK,HNT,HFW,HW⟩:=hrel;have HD34:=hid (show D.size = 34 by rw [HD.out]; exact cells_array HIN.out)
  have c0:wr.cell? ⟨wa,0,none⟩ = some (.int .i64 (s.level:Int)):=by rw [cell_of_row wr wa 0 _ _ _ HW.out.cur,HD.out]; rfl
  have c1:=two_cell0 HW.out.row
  cases n with
  | zero=>
   have hlev:s.level = bits:=by have:=HN.out; omega
   have hlt:¬ (s.level:Int) < (bits:Int):=by omega
   have HLV:=hid hlev;clear hlev
   go_upto_region 2 with fail
   go_region
   have hWd:WkB base bb nn fs X w wr.drew wa rb bits sl u10 u11 D lf rt:=HW.out.step (Kept.refl _ _ _).drew;generalize wr.drew = wd at hWd |-;have HWd:=hid hWd;clear hWd
   go_upto_region 9 with fail
   refine wp_region_lit ?_;refine wW λK hK=>?_;go_simp;apply hK;clear hK K;refine wW λK hK=>?_;go_simp;go_at_call 86
   refine(reverse_calls wd (wa + 2) u11 rt HWd.out.rights).mono ?_;rintro e w4 ⟨rfl,ho4,hg4⟩;apply hK;clear hK K;have HW4:=hid (HWd.out.right ho4 hg4 (.inl rfl));clear ho4 hg4;have hkey:=λw hI h1 h2=>key_bookX base bb nn fs (λi=>X i\/i = wa + 1) s bits HIN.out w hI h1 h2 HMK.out.mild
   rw [<- HD.out] at hkey;have HKL:=hid (show(Pp.key s.self).length = 32 from sum_length _);obtain⟨KD,hKD⟩:∃ KD,KD = (bcells (Pp.key s.self)).toArray:=⟨_,rfl⟩;have HKS:=hid (show KD.size = 32 by rw [hKD,List.size_toArray,bcells_length]; exact HKL.out)
   have HKA:=hid (show KD.all (·.oneCell') = true by rw [hKD]; exact bcells_all _)
   have HKI:=hid (show(Try.prog.info? 26).map (·.size) = some KD.size by rw [HKS.out]; kernel_rfl)
   simp only [<- hKD] at hkey;have HKEY:=hid hkey;have HKD:=hid hKD;clear hkey hKD
   go_upto_region 10 with fail
   refine wp_region_lit ?_;refine wpList_load_row rfl 101 (.tmp 6) rfl (wa) rfl 101 D (0,0) _ (HW4.out.cur) Try.underlying101 rfl (by rw [seedInfo,HD34.out]) ?_
   simp only [Act.put,sA,sB,sC];refine wW λK hK=>?_;go_simp;apply hK;clear hK K;refine wW λK hK=>?_;go_simp;go_at_call 87
   refine(HKEY.out _ HW4.out.bk HW4.out.lob (HW4.out.xlt HXX.out)).mono ?_;rintro e w5 ⟨rfl,q5,f5⟩;apply hK;clear hK K;have HW5:=hid (HW4.out.stepB q5 f5);clear q5 f5;iterate 2 (refine wW λK hK=>?_;go_simp;apply hK;clear hK K)
   obtain⟨v6,w6,hrun,hown,hgrow⟩:=append_rows w5 (wa + 2) u10 u11 lf rt.reverse HW5.out.lefts HW5.out.rights HW5.out.size (by have:=HLEN.out; simp; omega)
   refine wpList_append_known rfl (.tmp 47) (.tmp 48) 102 102 102 rfl rfl u10 u11 rfl rfl hrun ?_
   simp only [Act.put,sA,sB,sC];have hres:w6.heap[wa + 1]? = some (.cells zeros32 26 (0,0)):=(hgrow.block (wa + 1) (lt_of_block HW5.out.res) (λe=>by have:=(HW5.out.lefts.lt _ e.symm).1; omega)).trans HW5.out.res
   have hk6:BkFr base w w6:=HW5.out.frame.high HW5.out.lo hgrow (λk e=>by have:=(HW5.out.lefts.lt _ e).1; have:=HW5.out.w0s; omega)
   have hb6:=HW5.out.bk.stayG (StayG.grown HW5.out.lefts.2 hgrow) (by decide) (by decide) (by decide) (by decide)
   have HRES:=hid hres;have HK6:=hid hk6;have HB6:=hid hb6;have HOWN:=hid hown;clear hres hk6 hb6 hown hgrow hrun;refine wpList_store_row rfl 26 _ _ rfl (wa + 1) KD rfl rfl 26 zeros32 (HRES.out) (HKI.out) (by rw [zeros32_size,HKS.out]) (HKA.out) ?_
   simp only [Act.put];have hr7:=setRow_heap w6 (wa + 1) zeros32 KD _ _ HRES.out;have hk7:BkFr base w (w6.setRow (wa + 1) KD):=HK6.out.put HW5.out.lo (wa + 1) (by have:=HW5.out.w0s; omega) KD
   have hb7:=(HB6.out.put (wa + 1) (.inr rfl) zeros32 KD (0,0) HRES.out).less X (λk hk=>.inl hk)
   have ho7:=HOWN.out.stay (w':=w6.setRow (wa + 1) KD) (λk hk=>setRow_other w6 (wa + 1) k KD (by have:=(HOWN.out.lt k hk).1; omega))
   have HR7:=hid hr7;have HK7:=hid hk7;have HB7:=hid hb7;have HO7:=hid ho7;clear hr7 hk7 hb7 ho7;refine wW λK hK=>?_;go_simp;apply hK;clear hK K;go_wp2;refine named_ret rfl (wa + 1) KD rfl HR7.out HKS.out rfl ?_;have hwk:=HWK.out;refine⟨v6,?_,?_,by rw [<- HFW.out,<- HNT.out]; exact HB7.out,HK7.out⟩
   ·rw [<- hwk,HKD.out]
    rfl
   ·rw [<- hwk]
    exact HO7.out.ss
  | succ n=>
   have hlev:s.level < bits:=by have:=HN.out; omega
   have hlt:(s.level:Int) < (bits:Int):=by omega
   have HMKN:Hid (MildK (3 * n + 3) (Bk.note fs ([s.self],[(Pp.left s).self,(Pp.right s).self])) (nn + 3)):=hid (MildK.more (c:=3 * n + 3) (by have:=HMK.out; rwa [show 3 * (n + 1) + 3 = 3 * n + 3 + 3 by omega] at this) _ (by show 1 < _; decide) (by show 2 < _; decide))
   have HIL:=hid (Pp.left_in HIN.out hlev);have HIR:=hid (Pp.right_in HIN.out hlev);have hbelow:=λw hI h1 h2=>below_bookX base bb nn fs (λi=>X i\/i = wa + 1) bits HB.out s HIN.out hlev w hI h1 h2 HMK.out.mild
   have hstart:=λw h=>start_calls bits HB.out (Pp.right s) HIR.out rb sl w h
   obtain⟨D1,hD1⟩:∃ D1,D1 = (Pp.cells (Pp.left s)).toArray:=⟨_,rfl⟩;obtain⟨D2,hD2⟩:∃ D2,D2 = (Pp.cells (Pp.right s)).toArray:=⟨_,rfl⟩;simp only [<- HD.out,<- hD1,<- hD2] at hbelow;simp only [<- hD2] at hstart;have HBELOW:=hid hbelow;have HSTART:=hid hstart;have HID1:=HIL;have HID2:=HIR;have HSD1:=hid (show D1.size = 34 by rw [hD1]; exact cells_array HIL.out)
   have HSD2:=hid (show D2.size = 34 by rw [hD2]; exact cells_array HIR.out)
   have HAD1:=hid (show D1.all (·.oneCell') = true by rw [hD1]; exact cells_all _)
   have HAD2:=hid (show D2.all (·.oneCell') = true by rw [hD2]; exact cells_all _)
   have HLD1:=hid (show D1.toList = Pp.cells (Pp.left s) by rw [hD1])
   have HLD2:=hid (show D2.toList = Pp.cells (Pp.right s) by rw [hD2])
   have HPD1:=hid HIL.out.2.2;have HPD2:=hid HIR.out.2.2;have HTD1:=hid hD1;have HTD2:=hid hD2;clear hbelow hstart hD1 hD2 hlev
   go_upto_region 2 with fail
   go_region
   have hWd:WkB base bb nn fs X w wr.drew wa rb bits sl u10 u11 D lf rt:=HW.out.step (Kept.refl _ _ _).drew;generalize wr.drew = wd at hWd |-;have HWd:=hid hWd;clear hWd
   go_upto_region 3 with fail
   refine wp_region_lit ?_;refine wpList_load_row rfl 101 (.tmp 6) rfl (wa) rfl 101 D (0,0) _ (HWd.out.cur) Try.underlying101 rfl (by rw [seedInfo,HD34.out]) ?_
   simp only [Act.put,sA,sB,sC];refine wW λK hK=>?_;go_simp;apply hK;clear hK K;refine wW λK hK=>?_;go_simp;go_at_call 85
   refine(HBELOW.out _ HWd.out.bk HWd.out.lob (HWd.out.xlt HXX.out)).mono ?_;rintro e w4 ⟨rfl,q4,f4⟩;apply hK;clear hK K;have HW4:=hid (HWd.out.stepB q4 f4);have HO10:=hid (λk (hk:u10.ownBlock = some k)=>(HWd.out.lefts.lt k hk).2)
   have HO11:=hid (λk (hk:u11.ownBlock = some k)=>(HWd.out.rights.lt k hk).2)
   have hsz4:=f4.kept.size;have HSZ4:=hid hsz4;clear q4 f4 hsz4;iterate 3 (refine wW λK hK=>?_;go_simp;apply hK;clear hK K)
   refine wpList_alloc_k rfl 101 rfl (alloc_seed _) ?_
   simp only [Act.put,sA,sB,sC];refine wpList_alloc_k rfl 101 rfl (alloc_seed _) ?_
   simp only [Act.put,sA,sB,sC];have hW4b:=(HW4.out.alloc (.cells zeros34 101)).alloc (.cells zeros34 101)
   have hr1:((w4.alloc (.cells zeros34 101)).alloc (.cells zeros34 101)).heap[w4.heap.size]? = some (.cells zeros34 101 (0,0)):=(Below.heap_alloc _ _ _ (by simp)).trans (heap_new _ _)
   have hr2:=heap_new (w4.alloc (.cells zeros34 101)) (.cells zeros34 101)
   rw [World.size_alloc] at hr2 |-;generalize (w4.alloc (.cells zeros34 101)).alloc (.cells zeros34 101) = w4b at hW4b hr1 hr2 |-
   obtain⟨b1,hb1⟩:∃ b1,b1 = w4.heap.size:=⟨_,rfl⟩;rw [<- hb1] at hr1 hr2 |-;have HB1:=hid hb1
   replace HO10:=hid (λk (hk:u10.ownBlock = some k)=>show k < b1 by have:=HO10.out k hk; have:=HSZ4.out; have:=HB1.out; omega)
   replace HO11:=hid (λk (hk:u11.ownBlock = some k)=>show k < b1 by have:=HO11.out k hk; have:=HSZ4.out; have:=HB1.out; omega)
   have HB1W:=hid (show wa + 2<=b1 by have:=HW4.out.size; have:=HB1.out; omega)
   have HW4B:=hid hW4b;have Z1:=hid hr1;have Z2:=hid hr2;clear hW4b hr1 hr2 hb1;refine wpList_store_row rfl 101 _ _ rfl (b1) D1 rfl rfl 101 zeros34 (Z1.out) (by rw [seedInfo,HSD1.out]) (by rw [zeros34_size,HSD1.out]) (HAD1.out) ?_
   simp only [Act.put];have HW5A:=hid (HW4B.out.setnew b1 HB1W.out (λe=>by have:=HO10.out _ e; omega) (λe=>by have:=HO11.out _ e; omega) Z1.out D1)
   have RA:=hid (setRow_heap w4b b1 zeros34 D1 _ _ Z1.out);have ZB:=hid ((setRow_other w4b b1 (b1 + 1) D1 (by omega)).trans Z2.out)
   generalize w4b.setRow b1 D1 = w5a at HW5A RA ZB |-;refine wpList_store_row rfl 101 _ _ rfl (b1 + 1) D2 rfl rfl 101 zeros34 (ZB.out) (by rw [seedInfo,HSD2.out]) (by rw [zeros34_size,HSD2.out]) (HAD2.out) ?_
   simp only [Act.put];have HW5:=hid (HW5A.out.setnew (b1 + 1) (by have:=HB1W.out; omega) (λe=>by have:=HO10.out _ e; omega) (λe=>by have:=HO11.out _ e; omega) ZB.out D2)
   have R2:=hid (setRow_heap w5a (b1 + 1) zeros34 D2 _ _ ZB.out);have R1:=hid ((setRow_other w5a (b1 + 1) b1 D2 (by omega)).trans RA.out)
   generalize w5a.setRow (b1 + 1) D2 = w5 at HW5 R1 R2 |-;clear HW5A RA ZB Z1 Z2 HW4B
   go_upto_region 4 with fail
   refine wp_region_lit ?_;iterate 2 (refine wW λK hK=>?_;go_simp;apply hK;clear hK K)
   refine wpList_load_row rfl 101 (.tmp 13) rfl (b1 + 1) rfl 101 D2 (0,0) _ (R2.out) Try.underlying101 rfl (by rw [seedInfo,HSD2.out]) ?_
   simp only [Act.put,sA,sB,sC];refine wW λK hK=>?_;go_simp;go_at_call 84
   refine(HSTART.out _ HW5.out.row).mono ?_;rintro e w5' ⟨rfl,k5⟩;apply hK;clear hK K
   replace HW5:=hid (HW5.out.step k5)
   replace R1:=hid (rk R1.out k5)
   replace R2:=hid (rk R2.out k5)
   clear k5;clear w5
   rename World=>w5
   by_cases hc:pl < Pp.start bits (Pp.right s)
   ·have hci:(pl:Int) < (Pp.start bits (Pp.right s):Int):=by omega
    have HC:=hid hc;clear hc;refine wW λK hK=>?_;go_simp;apply hK;clear hK K
    go_upto_region 5 with fail
    refine wp_region_lit ?_;refine wW λK hK=>?_;go_simp;apply hK;clear hK K;refine wpList_load_row rfl 101 (.tmp 13) rfl (b1 + 1) rfl 101 D2 (0,0) _ (R2.out) Try.underlying101 rfl (by rw [seedInfo,HSD2.out]) ?_
    simp only [Act.put,sA,sB,sC];refine wpList_build_one rfl (.tmp 33) 102 101 rfl i0 z0 Try.underlying102 HI0.out HZ0.out D2 rfl (by rw [HSD2.out,HIS.out]) (by rw [HIS.out]; decide) (by rw [HIS.out]; decide) ?_
    simp only [Act.put,sA,sB,sC];have hW6:=HW5.out.alloc (.cells D2 101)
    obtain⟨v6,w6,hrun,hown,hgrow,hblk⟩:=append_seed_at (w5.alloc (.cells D2 101)) (wa + 2) u11 rt hW6.rights hW6.size w5.heap.size 1 (Pp.right s) HPD2.out (by have:=row_range (heap_new w5 (.cells D2 101)); rwa [HLD2.out] at this) (by have:=HLEN.out; omega)
    refine wpList_append_known rfl (.tmp 32) (.tmp 34) 102 102 102 rfl rfl u11 (.slice (some ⟨w5.heap.size,0,none⟩) 1 1) rfl rfl hrun ?_
    simp only [Act.put,sA,sB,sC];have hW7:=hW6.right hown hgrow hblk;have hg1:w6.heap[b1]? = some (.cells D1 101 (0,0)):=(hgrow.block b1 (by have:=lt_of_block R1.out; simp; omega) (λe=>by have:=HO11.out _ e.symm; omega)).trans ((Below.heap_alloc _ _ _ (lt_of_block R1.out)).trans R1.out)
    have hg2:w6.heap[b1 + 1]? = some (.cells D2 101 (0,0)):=(hgrow.block (b1 + 1) (by have:=lt_of_block R2.out; simp; omega) (λe=>by have:=HO11.out _ e.symm; omega)).trans ((Below.heap_alloc _ _ _ (lt_of_block R2.out)).trans R2.out)
    have HW7:=hid hW7;have G1:=hid hg1;have G2:=hid hg2;clear hW6 hW7 hg1 hg2 hrun hown hgrow hblk;refine wW λK hK=>?_;go_simp;apply hK;clear hK K
    go_upto_region 6 with fail
    refine wp_region_lit ?_;refine wpList_load_row rfl 101 (.tmp 12) rfl (b1) rfl 101 D1 (0,0) _ (G1.out) Try.underlying101 rfl (by rw [seedInfo,HSD1.out]) ?_
    simp only [Act.put,sA,sB,sC];refine wpList_store_row rfl 101 _ _ rfl (wa) D1 rfl rfl 101 D (HW7.out.cur) (by rw [seedInfo,HSD1.out]) (by rw [HD34.out,HSD1.out]) (HAD1.out) ?_
    simp only [Act.put];have hW8:=HW7.out.setcur D1;have HW8:=hid hW8;clear hW8
    go_wp2_with fail
    go_roundw
    case rel=>exact⟨n,Pp.left s,lf,rt ++ [Pp.right s],D1,Bk.note fs ([s.self],[(Pp.left s).self,(Pp.right s).self]),nn + 3,HTD1,hid (by show s.level + 1 + n = bits; have:=HN.out; omega),HID1,hid (by rw [<- HWK.out,Pp.walk,if_pos HC.out]),hid (by have:=HLEN.out; simp; omega),hid (HMKN.out),hid (by have:=HNT.out; omega),hid (by rw [<- HFW.out,Pp.wfacts,if_pos HC.out]),HW8⟩
    case measure=>
     rw [levAt_of HW8.out.cur HTD1.out,levAt_of HW.out.cur HD.out];show bits - (s.level + 1) < bits - s.level;have:=HN.out
     omega
   ·have hci:¬ (pl:Int) < (Pp.start bits (Pp.right s):Int):=by omega
    have HC:=hid hc;clear hc;refine wW λK hK=>?_;go_simp;apply hK;clear hK K
    go_upto_region 7 with fail
    refine wp_region_lit ?_;refine wW λK hK=>?_;go_simp;apply hK;clear hK K;refine wpList_load_row rfl 101 (.tmp 12) rfl (b1) rfl 101 D1 (0,0) _ (R1.out) Try.underlying101 rfl (by rw [seedInfo,HSD1.out]) ?_
    simp only [Act.put,sA,sB,sC];refine wpList_build_one rfl (.tmp 38) 102 101 rfl i0 z0 Try.underlying102 HI0.out HZ0.out D1 rfl (by rw [HSD1.out,HIS.out]) (by rw [HIS.out]; decide) (by rw [HIS.out]; decide) ?_
    simp only [Act.put,sA,sB,sC];have hW6:=HW5.out.alloc (.cells D1 101)
    obtain⟨v6,w6,hrun,hown,hgrow,hblk⟩:=append_seed_at (w5.alloc (.cells D1 101)) (wa + 2) u10 lf hW6.lefts hW6.size w5.heap.size 1 (Pp.left s) HPD1.out (by have:=row_range (heap_new w5 (.cells D1 101)); rwa [HLD1.out] at this) (by have:=HLEN.out; omega)
    refine wpList_append_known rfl (.tmp 37) (.tmp 39) 102 102 102 rfl rfl u10 (.slice (some ⟨w5.heap.size,0,none⟩) 1 1) rfl rfl hrun ?_
    simp only [Act.put,sA,sB,sC];have hW7:=hW6.left hown hgrow hblk;have hg1:w6.heap[b1]? = some (.cells D1 101 (0,0)):=(hgrow.block b1 (by have:=lt_of_block R1.out; simp; omega) (λe=>by have:=HO10.out _ e.symm; omega)).trans ((Below.heap_alloc _ _ _ (lt_of_block R1.out)).trans R1.out)
    have hg2:w6.heap[b1 + 1]? = some (.cells D2 101 (0,0)):=(hgrow.block (b1 + 1) (by have:=lt_of_block R2.out; simp; omega) (λe=>by have:=HO10.out _ e.symm; omega)).trans ((Below.heap_alloc _ _ _ (lt_of_block R2.out)).trans R2.out)
    have HW7:=hid hW7;have G1:=hid hg1;have G2:=hid hg2;clear hW6 hW7 hg1 hg2 hrun hown hgrow hblk;refine wW λK hK=>?_;go_simp;apply hK;clear hK K
    go_upto_region 8 with fail
    refine wp_region_lit ?_;refine wpList_load_row rfl 101 (.tmp 13) rfl (b1 + 1) rfl 101 D2 (0,0) _ (G2.out) Try.underlying101 rfl (by rw [seedInfo,HSD2.out]) ?_
    simp only [Act.put,sA,sB,sC];refine wpList_store_row rfl 101 _ _ rfl (wa) D2 rfl rfl 101 D (HW7.out.cur) (by rw [seedInfo,HSD2.out]) (by rw [HD34.out,HSD2.out]) (HAD2.out) ?_
    simp only [Act.put];have hW8:=HW7.out.setcur D2;have HW8:=hid hW8;clear hW8
    go_wp2_with fail
    go_roundw
    case rel=>exact⟨n,Pp.right s,lf ++ [Pp.left s],rt,D2,Bk.note fs ([s.self],[(Pp.left s).self,(Pp.right s).self]),nn + 3,HTD2,hid (by show s.level + 1 + n = bits; have:=HN.out; omega),HID2,hid (by rw [<- HWK.out,Pp.walk,if_neg HC.out]),hid (by have:=HLEN.out; simp; omega),hid (HMKN.out),hid (by have:=HNT.out; omega),hid (by rw [<- HFW.out,Pp.wfacts,if_neg HC.out]),HW8⟩
    case measure=>
     rw [levAt_of HW8.out.cur HTD2.out,levAt_of HW.out.cur HD.out];show bits - (s.level + 1) < bits - s.level;have:=HN.out
     omega
theorem BkBut.put {base rb:Nat}{w w':World}(h:BkBut base rb w w')(hb:base<=w.heap.size)(g:Nat)(hg:w.heap.size<=g)(cs:Array Value):BkBut base rb w (w'.setRow g cs):=
 ⟨Kept.ofBelow (below_setRow (h.kept.below (Nat.le_refl _) (Nat.le_refl _)) (Nat.le_trans hb hg) cs) (Nat.le_refl _),λk xs t fr hn r h1 h2 h3=>by
  rw [setRow_other w' g k cs (λe=>by have:=lt_of_block r; omega)]
  exact h.oth k xs t fr hn r h1 h2 h3⟩
theorem take_bookX (base bb n0:Nat)(fs:Facts)(X:Nat->Prop)(bits:Nat)(hb:bits<=32)(A B:List Sd)(s:Sd)(rb:Nat)(sl:Value)(pl:Nat)(w:World)(hR:RowIs w rb bits sl (A ++ s :: B))(hG:Pp.Good bits (A ++ s :: B))(hn:(A ++ s :: B).length < 1000000)(hp1:pl < 2 ^ bits)(h1:Pp.start bits s<=pl)(h2:pl < Pp.stop bits s)(hbk:InBk w base bb fs n0 X)(hbase:base<=w.heap.size)(hX:∀ k,X k->k < w.heap.size)(hmk:MildK (3 * (bits - s.level) + 3) fs n0)(hty:Typ w sl)(hbr:base<=rb):
  Calls Try.prog 29 #[.pointer (some ⟨rb,0,none⟩),.pointer (some ⟨bb,0,none⟩),.int .i64 (pl:Int)] w λe w'=>e = .returned (.tuple #[.agg (bcells (Pp.key (Pp.leaf bits pl (bits - s.level) s).self)).toArray,.int .i64 0])/\∃ sl',RowIs w' rb bits sl' (A ++ Pp.beside bits pl (bits - s.level) s ++ B)/\InBk w' base bb (Pp.wfacts bits pl (bits - s.level) s fs) (n0 + (3 * (bits - s.level) + 3)) X/\BkBut base rb w w'/\NearT w w' sl sl':=by
 have hsin:Pp.In bits s:=hG.1 s (by simp)
 have hgs:(A ++ s :: B)[A.length]? = some s:=by simp
 have hil:A.length < (A ++ s :: B).length:=by simp
 have hge:(A ++ s :: B)[A.length] = s:=by simp
 have hfind:∀ w1,Kept w.heap.size w.heap.size w w1->Calls Try.prog 59 #[.pointer (some ⟨rb,0,none⟩),.int .i64 (pl:Int)] w1 λe w'=>e = .returned (.tuple #[.int .i64 (A.length:Int),.int .i64 0])/\Kept w1.heap.size w1.heap.size w1 w':=λw1 k=>by
  have:=find_at bits hb (A ++ s :: B) rb sl (pl:Int) w1 (hR.kept k) hG (by omega) (by omega) (by omega) A.length hil (by rw [hge]; omega) (by rw [hge]; omega)
  exact this
 have hwalk:=λw1 h hI h1 h2=>walk_bookX base bb n0 fs (λi=>X i\/i = w.heap.size) bits hb s hsin pl rb sl w1 h hI h1 h2 hmk
 obtain⟨ad,g,o,c,rfl,hss,hcap⟩:=hR.2;obtain⟨had,hgl,hgr⟩:=hss A.length hil;subst had;have HBKW:=hid (λ(w1:World) (k:Kept w.heap.size w.heap.size w w1)=>(hbk.freshOr (λi=>i = w.heap.size) (λi hi=>by omega)).kept k)
 have HBASE:=hid hbase;have HXW:=hid (λ(w1:World) (h:w.heap.size < w1.heap.size) (i:Nat) (hi:X i\/i = w.heap.size)=>(show i < w1.heap.size from hi.elim (λh9=>Nat.lt_trans (hX i h9) h) (λh9=>by rw [h9]; exact h)))
 have HTY:=hid hty;have HBR:=hid hbr;obtain⟨FW,hFW⟩:∃ FW,FW = Pp.wfacts bits pl (bits - s.level) s fs:=⟨_,rfl⟩;obtain⟨NT,hNT⟩:∃ NT,NT = n0 + (3 * (bits - s.level) + 3):=⟨_,rfl⟩;simp only [<- hFW,<- hNT] at hwalk;rw [<- hFW,<- hNT];clear hbk hbase hX hty hmk hbr hFW hNT;rw [hge] at hgr;have hKL:(Pp.key (Pp.leaf bits pl (bits - s.level) s).self).length = 32:=sum_length _;obtain⟨KD,hKD⟩:∃ KD,KD = (bcells (Pp.key (Pp.leaf bits pl (bits - s.level) s).self)).toArray:=⟨_,rfl⟩;have HKS:=hid (show KD.size = 32 by rw [hKD,List.size_toArray,bcells_length]; exact hKL)
 have HKA:=hid (show KD.all (·.oneCell') = true by rw [hKD]; exact bcells_all _)
 have HKI:=hid (show(Try.prog.info? 26).map (·.size) = some KD.size by rw [HKS.out]; kernel_rfl)
 simp only [<- hKD] at hwalk;rw [<- hKD];have hsi:(Try.prog.info? 101).map (·.size) = some (Pp.cells s).length:=by rw [seedInfo,Pp.cells_length hsin]
 obtain⟨ln,hln⟩:∃ ln,ln = (A ++ s :: B).length:=⟨_,rfl⟩;have hlt:(A.length:Int) < (ln:Int):=by omega
 have hln30:(ln:Int) < 1000000:=by omega
 obtain⟨BES,hBES⟩:∃ BES,BES = Pp.beside bits pl (bits - s.level) s:=⟨_,rfl⟩;simp only [<- hBES,<- hln] at hwalk;have hbl:BES.length<=32:=by rw [hBES,Pp.beside_length]; omega
 have hbg:=(Pp.beside_good bits pl (bits - s.level) s hsin (by have:=hsin.1; omega)).1
 rw [<- hBES] at hbg |-;have HREP:=hid (λ(w1:World) (v:Value) (hr:RowIs w1 rb bits (.slice (some ⟨g,o,none⟩) (A ++ s :: B).length c) (A ++ s :: B)) (hv:Ss w1 v BES)=>replace_callsT bits A B BES s (λx hx=>(hG.1 x (by simp [hx])).2.2) (λx hx=>(hbg.1 x hx).2.2) (λx hx=>(hG.1 x (by simp [hx])).2.2) rb _ v w1 hr hv (by simp at hn; omega))
 have HALL:=hid (show ∀ x∈A ++ BES ++ B,x.self.length = 32 from λx hx=>by
  simp only [List.mem_append] at hx
  rcases hx with (hx | hx) | hx
  ·exact(hG.1 x (by simp [hx])).2.2
  ·exact(hbg.1 x hx).2.2
  ·exact(hG.1 x (by simp [hx])).2.2)
 have HBALL:=hid (show ∀ x∈BES,x.self.length = 32 from λx hx=>(hbg.1 x hx).2.2)
 have HLALL:=hid (show ∀ x∈A ++ s :: B,x.self.length = 32 from λx hx=>(hG.1 x hx).2.2)
 clear hbl hbg;have HROW:=hid hR;simp only [<- hln] at HROW HREP;have HFIND:=hid hfind;have HWALK:=hid hwalk;have HGR:=hid hgr;have HGL:=hid hgl;have HSI:=hid hsi;have HRBL:=hid (lt_of_block hR.1);obtain⟨D,hDD⟩:∃ D,D = (Pp.cells s).toArray:=⟨_,rfl⟩;have HDD:=hid hDD.symm;rw [<- hDD] at HWALK;clear hDD hfind hwalk hgr hgl hsi hR hG hss hsin hgs hge hil hn hKL hKD hBES hln hcap hp1 h1 h2;generalize A.length = ia at hlt HFIND HGR HREP |-
 go_enter Try.func29,Try.ntmps29
 go_upto_region 1 with fail
 rw [zeros32_eq];have k1:Kept w.heap.size w.heap.size w (w.alloc (.cells zeros32 26)):=(Kept.refl _ _ _).alloc (Nat.le_refl _) _
 have r1:(w.alloc (.cells zeros32 26)).heap[w.heap.size]? = some (.cells zeros32 26 (0,0)):=heap_new _ _
 generalize w.alloc (.cells zeros32 26) = w1 at k1 r1 |-
 have HK1:=hid k1;have R1:=hid r1;have HFF:=hid (HFIND.out w1 k1);obtain⟨wa,hwa⟩:∃ wa,wa = w.heap.size:=⟨_,rfl⟩;rw [<- hwa] at R1 HK1 HRBL |-;have HWA:=hid hwa;clear k1 r1 hwa
 go_upto_region 4 with (go_at_call 59; refine HFF.out.mono ?_; rintro e w2 ⟨rfl,k2⟩)
 have hs1:wa<=w1.heap.size:=by have:=HK1.out.size; have:=HWA.out; omega
 have K2:=hid (HK1.out.trans (k2.mono hs1 (λi hi _=>Nat.ne_of_lt (Nat.lt_of_lt_of_le hi hs1))))
 have R2:=hid (rk R1.out k2);clear k2 hs1;have K2W:=hid (show Kept w.heap.size w.heap.size w w2 by rw [<- HWA.out]; exact K2.out)
 have HROW2:=hid (HROW.out.kept K2W.out);have c1:=two_cell1 HROW2.out.1;have hgr2:w2.rangeAt g (o + ia * 34) (Pp.cells s):=rangeAt_kept K2W.out HGR.out HGL.out (Nat.ne_of_lt HGL.out);have HGR2:=hid hgr2;clear hgr2;refine wp_region_lit ?_;iterate 8 (refine wW λK hK=>?_;go_simp;apply hK;clear hK K)
 refine wpList_load_mid rfl 101 (.tmp 30) rfl g (o + ia * 34) rfl (Pp.cells s) _ HGR2.out Try.underlying101 rfl HSI.out ?_
 simp only [Act.put,sA,sB,sC];rw [HDD.out];refine wW λK hK=>?_;go_simp;apply hK;clear hK K;refine wW λK hK=>?_;go_simp;go_at_call 60
 refine(HWALK.out w2 HROW2.out.1 (by have:=HBKW.out w2 K2W.out; rwa [<- HWA.out] at this |-) (Nat.le_trans HBASE.out K2W.out.size) (by have:=HXW.out w2 (by have:=lt_of_block R2.out; have:=HWA.out; omega); rwa [<- HWA.out] at this |-)).mono ?_
 rintro e w3 ⟨v,rfl,hv3,q3,f3⟩;apply hK;clear hK K;have R3:=hid (f3.row R2.out);have F3:=hid ((BkFr.ofKept HBASE.out K2W.out).trans f3);have HROW3:=hid (HROW2.out.bk (HTY.out.kept K2W.out) f3);rw [<- HWA.out] at q3;have B3:=hid (q3.freshOr (λi=>i = w3.heap.size) (λi hi=>by omega))
 have HV3:=hid hv3;clear f3 q3 hv3 c1;iterate 3 (refine wW λK hK=>?_;go_simp;apply hK;clear hK K)
 refine wpList_alloc_k rfl 26 rfl (alloc_hash _) ?_
 simp only [Act.put,sA,sB,sC];have hR4:(w3.alloc (.cells zeros32 26)).heap[w3.heap.size]? = some (.cells zeros32 26 (0,0)):=heap_new _ _
 have hk4:Kept w3.heap.size w3.heap.size w3 (w3.alloc (.cells zeros32 26)):=(Kept.refl _ _ _).alloc (Nat.le_refl _) _
 have hs3:wa < w3.heap.size:=lt_of_block R3.out;obtain⟨wb,hwb⟩:∃ wb,wb = w3.heap.size:=⟨_,rfl⟩;generalize w3.alloc (.cells zeros32 26) = w4 at hR4 hk4 |-
 have F4:=hid (F3.out.trans (BkFr.ofKept (Nat.le_trans HBASE.out F3.out.kept.size) hk4));have b4:=B3.out.kept hk4;rw [<- hwb] at b4;have B4:=hid b4;have R4:=hid ((hk4.block wa hs3 (Nat.ne_of_lt hs3)).trans R3.out);have HROW4:=hid (HROW3.out.kept hk4);have HV4:=hid (HV3.out.kept hk4);rw [<- hwb] at hR4 |-;have Q4:=hid hR4;have HWB:=hid (show wa < wb by omega)
 have HWRB:=hid (show rb < wb by have:=HRBL.out; omega)
 clear hR4 hk4 hs3 hwb HROW3 HV3 b4 B3;refine wpList_store_row rfl 26 _ _ rfl (wb) KD rfl rfl 26 zeros32 (Q4.out) (HKI.out) (by rw [zeros32_size,HKS.out]) (HKA.out) ?_
 simp only [Act.put];have F5:=hid (F4.out.put HBASE.out wb (by have:=HWB.out; have:=HWA.out; omega) KD)
 have B5:=hid (B4.out.put wb (.inr rfl) zeros32 KD (0,0) Q4.out);have R5:=hid ((setRow_other w4 wb wa KD (by have:=HWB.out; omega)).trans R4.out)
 have Q5:=hid (setRow_heap w4 wb zeros32 KD _ _ Q4.out);have HV5:=hid (ss_setRow Q4.out (by rw [zeros32_size]; decide) HBALL.out HV4.out KD)
 have HROW5:Hid (RowIs (w4.setRow wb KD) rb bits (.slice (some ⟨g,o,none⟩) ln c) (A ++ s :: B)):=hid ⟨(setRow_other w4 wb rb KD (by have:=HWRB.out; omega)).trans HROW4.out.1,ss_setRow Q4.out (by rw [zeros32_size]; decide) HLALL.out HROW4.out.2 KD⟩
 generalize w4.setRow wb KD = w5 at F5 B5 R5 Q5 HV5 HROW5 |-;refine wW λK hK=>?_;go_simp;apply hK;clear hK K
 go_upto_region 5 with fail
 refine wp_region_lit ?_;iterate 3 (refine wW λK hK=>?_;go_simp;apply hK;clear hK K)
 refine wW λK hK=>?_;go_simp;go_at_call 61
 refine(HREP.out w5 v HROW5.out HV5.out).mono ?_;rintro e w6 ⟨rfl,sl',hr6,k6,hn6⟩;apply hK;clear hK K;have hsw:wa < w5.heap.size:=lt_of_block R5.out;have R6:=hid ((k6.block wa hsw (by have:=HRBL.out; omega)).trans R5.out)
 have Q6:=hid ((k6.block wb (lt_of_block Q5.out) (by have:=HWRB.out; omega)).trans Q5.out)
 have F6:=hid (F5.out.but.trans (BkBut.of (Nat.le_trans HBASE.out F5.out.kept.size) HBR.out k6));have B6:=hid (B5.out.stayG (StayG.but HROW5.out.1 k6) (by decide) (by decide) (by decide) (by decide))
 have HS5:=hid (show w.heap.size<=wa/\wa < w5.heap.size from⟨by have:=HWA.out; omega,hsw⟩);have HR6:=hid hr6;have HN6:=hid hn6;clear k6 hr6 hsw hn6
 go_upto_region 6 with fail
 refine wp_region_lit ?_;refine wpList_load_row rfl 26 (.tmp 10) rfl (wb) rfl 26 KD (0,0) _ (Q6.out) Try.underlying26 rfl (HKI.out) ?_
 simp only [Act.put,sA,sB,sC];refine wpList_store_row rfl 26 _ _ rfl (wa) KD rfl rfl 26 zeros32 (R6.out) (HKI.out) (by rw [zeros32_size,HKS.out]) (HKA.out) ?_
 simp only [Act.put];have F7:=hid (F6.out.put HBASE.out wa HS5.out.1 KD);have B7:=hid ((B6.out.put wa (.inl (.inr rfl)) zeros32 KD (0,0) R6.out).less X (λk hk=>.inl (.inl hk)))
 have HN7:Hid (NearT w (w6.setRow wa KD) (.slice (some ⟨g,o,none⟩) ln c) sl'):=hid (λk hk=>(HN6.out k hk).imp id (λh=>⟨by have:=HS5.out; omega,by
  obtain⟨cs,fr,hh⟩:=h.2
  exact⟨cs,fr,(setRow_other w6 wa k KD (by have:=HS5.out; have:=h.1; omega)).trans hh⟩⟩))
 have r7:=setRow_heap w6 wa zeros32 KD _ _ R6.out;have hr7:RowIs (w6.setRow wa KD) rb bits sl' (A ++ BES ++ B):=⟨(setRow_other w6 wa rb KD (by have:=HRBL.out; omega)).trans HR6.out.1,ss_setRow R6.out (by rw [zeros32_size]; decide) HALL.out HR6.out.2 KD⟩
 generalize w6.setRow wa KD = w7 at F7 B7 HN7 r7 hr7 |-;have R7:=hid r7;have HR7:=hid hr7;clear r7 hr7;refine wW λK hK=>?_;go_simp;apply hK;clear hK K;go_wp2;refine named_ret rfl wa KD rfl R7.out HKS.out rfl ?_;exact⟨rfl,sl',HR7.out,B7.out,F7.out,HN7.out⟩
namespace Pp
def wayS (n p:Nat)(l:List UInt8)(lev:Nat):Sd:=⟨lev,p / 2 ^ (n - lev),path (p / 2 ^ (n - lev)) lev l⟩
def lfact (n p:Nat)(l:List UInt8)(lev:Nat):List (List UInt8) × List (List UInt8):=
 if lev = n then ([(wayS n p l lev).self],[key (wayS n p l lev).self]) else ([(wayS n p l lev).self],[(left (wayS n p l lev)).self,(right (wayS n p l lev)).self])
def lev1 (n:Nat)(P:List Nat)(p:Nat)(l:List UInt8)(lev:Nat):Facts:=if lev = n\/Whole n P (wayS n p l lev) then [lfact n p l lev] else []
def upto (n:Nat)(P:List Nat)(p:Nat)(l:List UInt8):Nat->Facts
 | 0=>[]
 | k + 1=>upto n P p l k ++ lev1 n P p l k
def downf (n:Nat)(P:List Nat)(p:Nat):Nat->Sd->Facts
 | 0,s=>[([s.self],[key s.self])]
 | k + 1,s=>(if Whole n P s then [([s.self],[(left s).self,(right s).self])] else []) ++ downf n P p k (if p < start n (right s) then left s else right s)
theorem Whole.left {n:Nat}{P:List Nat}{s:Sd}(h:Whole n P s)(hl:s.level < n):Whole n P (Pp.left s):=λt ht hh=>h t ht (has_of_left hl hh)
theorem Whole.right {n:Nat}{P:List Nat}{s:Sd}(h:Whole n P s)(hl:s.level < n):Whole n P (Pp.right s):=λt ht hh=>h t ht (has_of_right hl hh)
theorem wfacts_whole (n:Nat)(P:List Nat)(p:Nat):∀ (k:Nat) (s:Sd) (fs:Facts),s.level + k = n->Whole n P s->wfacts n p k s fs = (downf n P p k s).foldl Bk.note fs
 | 0,s,fs,_,_=>rfl
 | k + 1,s,fs,hk,hw=>by
  have hl:s.level < n:=by omega
  unfold wfacts downf;rw [if_pos hw,List.foldl_append]
  by_cases h:p < start n (right s)
  ·rw [if_pos h,if_pos h,wfacts_whole n P p k (left s) _ (show s.level + 1 + k = n by omega) (hw.left hl)]
   rfl
  ·rw [if_neg h,if_neg h,wfacts_whole n P p k (right s) _ (show s.level + 1 + k = n by omega) (hw.right hl)]
   rfl
theorem wfacts_low (n:Nat)(P:List Nat)(p:Nat):∀ (k:Nat) (s x:Sd) (fs:Facts),In n s->s.level + k = n->x∈low n P k s->Has n x p->Has n s p->wfacts n p (n - x.level) x fs = (downf n P p k s).foldl Bk.note fs
 | k,s,x,fs,hin,hk,hx,hp,hs=>by
  by_cases hw:Whole n P s
  ·rw [low_whole hw,List.mem_singleton] at hx
   subst hx;rw [show n - x.level = k by omega]
   exact wfacts_whole n P p k x fs hk hw
  ·cases k with
   | zero=>unfold low at hx; rw [if_neg hw] at hx; cases hx
   | succ k=>
    have hl:s.level < n:=by omega
    unfold low at hx;rw [if_neg hw] at hx;unfold downf;rw [if_neg hw,List.nil_append];have hgl:=(low_good n P k (left s) (left_in hin hl) (show s.level + 1 + k = n by omega)).2
    have hgr:=(low_good n P k (right s) (right_in hin hl) (show s.level + 1 + k = n by omega)).2
    rcases List.mem_append.1 hx with h | h
    ·have h2:=hgl x h
     have h3:p < start n (right s):=by rw [<- left_stop]; exact Nat.lt_of_lt_of_le hp.2 h2.2
     rw [if_pos h3];exact wfacts_low n P p k (left s) x fs (left_in hin hl) (show s.level + 1 + k = n by omega) h hp (has_left hl hs h3)
    ·have h2:=hgr x h
     have h3:¬ p < start n (right s):=by have:=hp.1; omega
     rw [if_neg h3];exact wfacts_low n P p k (right s) x fs (right_in hin hl) (show s.level + 1 + k = n by omega) h hp (has_right hl hs h3)
theorem way_next (n p:Nat)(l:List UInt8)(lev:Nat)(hl:lev < n):(if p < start n (right (wayS n p l lev)) then left (wayS n p l lev) else right (wayS n p l lev)) = wayS n p l (lev + 1):=by
 have hd:=Nat.two_pow_pos (n - (lev + 1));have h2:p / 2 ^ (n - lev) = p / 2 ^ (n - (lev + 1)) / 2:=by rw [half hl,Nat.mul_comm,Nat.div_div_eq_div_mul]
 have hst:start n (right (wayS n p l lev)) = (2 * (p / 2 ^ (n - lev)) + 1) * 2 ^ (n - (lev + 1)):=rfl;obtain⟨q,hq⟩:∃ q,q = p / 2 ^ (n - (lev + 1)):=⟨_,rfl⟩;have hlt:p < (2 * (q / 2) + 1) * 2 ^ (n - (lev + 1))↔q < 2 * (q / 2) + 1:=by rw [hq,Nat.div_lt_iff_lt_mul hd]
 rw [hst,h2,<- hq]
 have e:∀ b:Bool,q = 2 * (q / 2) + b.toNat->(⟨lev + 1,2 * (q / 2) + b.toNat,Sm.sum ((if b then wRight else wLeft) ++ path (q / 2) lev l)⟩:Sd) = wayS n p l (lev + 1):=λb hb=>by
  rw [<- path_snoc b lev (q / 2) l,<- hb];unfold wayS;rw [<- hq]
 by_cases h:q < 2 * (q / 2) + 1
 ·rw [if_pos (hlt.2 h),<- e false (by simp; omega)]
  unfold left wayS;rw [h2,<- hq]
  rfl
 ·rw [if_neg (λh3=>h (hlt.1 h3)),<- e true (by simp; omega)]
  unfold right wayS;rw [h2,<- hq]
  rfl
theorem upto_downf (n:Nat)(P:List Nat)(p:Nat)(l:List UInt8):∀ (k lev:Nat),lev + k = n->upto n P p l lev ++ downf n P p k (wayS n p l lev) = upto n P p l (n + 1)
 | 0,lev,h=>by
  obtain rfl:lev = n:=by omega
  show _ = upto lev P p l lev ++ lev1 lev P p l lev;unfold downf lev1 lfact;rw [if_pos (.inl rfl),if_pos rfl]
 | k + 1,lev,h=>by
  have hl:lev < n:=by omega
  unfold downf;rw [way_next n p l lev hl,<- List.append_assoc]
  have e:upto n P p l lev ++ (if Whole n P (wayS n p l lev) then [([(wayS n p l lev).self],[(left (wayS n p l lev)).self,(right (wayS n p l lev)).self])] else []) = upto n P p l (lev + 1):=by
   show _ = upto n P p l lev ++ lev1 n P p l lev
   congr 1
   unfold lev1 lfact;rw [if_neg (show ¬ lev = n by omega)]
   by_cases hw:Whole n P (wayS n p l lev)
   ·rw [if_pos hw,if_pos (.inr hw)]
   ·rw [if_neg hw,if_neg (λh3=>h3.elim (λh4=>by omega) hw)]
  rw [e];exact upto_downf n P p l k (lev + 1) (by omega)
theorem found_facts (n:Nat)(P:List Nat)(p:Nat)(l:List UInt8)(hl:l.length = 32)(hp:p < 2 ^ n)(x:Sd)(hx:x∈low n P n ⟨0,0,l⟩)(hh:Has n x p)(fs:Facts):wfacts n p (n - x.level) x fs = (upto n P p l (n + 1)).foldl Bk.note fs:=by
 have hin:In n ⟨0,0,l⟩:=⟨Nat.zero_le _,Nat.one_pos,hl⟩;rw [wfacts_low n P p n ⟨0,0,l⟩ x fs hin (Nat.zero_add _) hx hh ⟨by simp [start],by simpa [stop] using hp⟩,<- upto_downf n P p l n 0 (Nat.zero_add _)]
 have e:wayS n p l 0 = ⟨0,0,l⟩:=by
  unfold wayS;rw [Nat.sub_zero,Nat.div_eq_of_lt hp]
  rfl
 rw [e]
 rfl
theorem upto_length (n:Nat)(P:List Nat)(p:Nat)(l:List UInt8):∀ k,(upto n P p l k).length<=k
 | 0=>Nat.le_refl _
 | k + 1=>by
  have:=upto_length n P p l k;unfold upto lev1;rw [List.length_append]
  split <;> simp <;> omega
def Small (f:List (List UInt8) × List (List UInt8)):Prop:=f.1.length = 1/\0 < f.2.length/\f.2.length<=2/\(∀ x∈f.1,x.length = 32)/\(∀ x∈f.2,x.length = 32)
theorem lfact_small (n p:Nat)(l:List UInt8)(hl:l.length = 32)(lev:Nat):Small (lfact n p l lev):=by
 have h:=path_length (p / 2 ^ (n - lev)) lev l hl;unfold lfact wayS
 split
 ·exact⟨rfl,Nat.one_pos,by simp,λx hx=>by rw [List.mem_singleton.1 hx]; exact h,λx hx=>by rw [List.mem_singleton.1 hx]; exact sum_length _⟩
 ·refine⟨rfl,by simp,by simp,λx hx=>by rw [List.mem_singleton.1 hx]; exact h,λx hx=>?_⟩
  simp only [List.mem_cons,List.not_mem_nil,or_false] at hx
  rcases hx with rfl | rfl <;> exact sum_length _
theorem upto_small (n:Nat)(P:List Nat)(p:Nat)(l:List UInt8)(hl:l.length = 32):∀ k,∀ f∈upto n P p l k,Small f
 | 0,f,h=>by cases h
 | k + 1,f,h=>by
  unfold upto at h
  rcases List.mem_append.1 h with h | h
  ·exact upto_small n P p l hl k f h
  ·unfold lev1 at h
   split at h
   ·rw [List.mem_singleton.1 h]; exact lfact_small n p l hl k
   ·cases h
def noted (n:Nat)(P:List Nat)(l:List UInt8)(pl:Int)(fs:Facts):Facts:=if 0<=pl/\pl < ((2 ^ n:Nat):Int)/\pl.toNat∉P then (upto n P pl.toNat l (n + 1)).foldl Bk.note fs else fs
theorem whole_div (n:Nat)(P:List Nat)(p:Nat)(l:List UInt8)(lev:Nat):(∀ t∈P,t / 2 ^ (n - lev)≠p / 2 ^ (n - lev))↔Whole n P (wayS n p l lev):=
 ⟨λh t ht hh=>h t ht (has_div.1 hh),λh t ht e=>h t ht (has_div.2 e)⟩
end Pp
theorem NearT.refl (w:World)(sl:Value):NearT w w sl sl:=λ_ hk=>.inl hk
theorem Pp.low_at (n:Nat)(P:List Nat)(l:List UInt8)(p:Nat)(hp:p < 2 ^ n)(hm:p∉P):∃ A x B,Pp.low n P n ⟨0,0,l⟩ = A ++ x :: B/\Pp.Has n x p/\Pp.low n (P ++ [p]) n ⟨0,0,l⟩ = A ++ Pp.beside n p (n - x.level) x ++ B:=
 Pp.low_took n P p hm n ⟨0,0,l⟩ (Nat.zero_add _) ⟨by simp [Pp.start],by simpa [Pp.stop] using hp⟩
theorem InBk.upTo {w:World}{base bb n m:Nat}{fs:Facts}{X:Nat->Prop}(h:InBk w base bb fs n X)(hm:n<=m):InBk w base bb fs m X:=by
 obtain⟨n',h1,S,h2,h3⟩:=h;exact⟨n',by omega,S,h2,h3⟩
theorem Pp.noted_out (n:Nat)(P:List Nat)(l:List UInt8)(pl:Int)(fs:Facts)(h:pl < 0\/((2 ^ n:Nat):Int)<=pl):Pp.noted n P l pl fs = fs:=by
 unfold Pp.noted;rw [if_neg]
 omega
theorem Pp.noted_gone (n:Nat)(P:List Nat)(l:List UInt8)(p:Nat)(fs:Facts)(h:p∈P):Pp.noted n P l (p:Int) fs = fs:=by
 unfold Pp.noted;rw [if_neg (λh2=>h2.2.2 (by simpa using h))]
theorem Pp.noted_fresh (n:Nat)(P:List Nat)(l:List UInt8)(p:Nat)(fs:Facts)(hp:p < 2 ^ n)(h:p∉P):Pp.noted n P l (p:Int) fs = (Pp.upto n P p l (n + 1)).foldl Bk.note fs:=by
 unfold Pp.noted;rw [if_pos ⟨Int.natCast_nonneg _,by omega,by simpa using h⟩]
 rfl
theorem Pp.key_at {n:Nat}{P:List Nat}{l:List UInt8}(hl:l.length = 32){p:Nat}(hp:p < 2 ^ n)(hm:p∉P){A B:List Sd}{x:Sd}(e:Pp.low n P n ⟨0,0,l⟩ = A ++ x :: B)(hx:Pp.Has n x p):Pp.key (Pp.leaf n p (n - x.level) x).self = Pp.key (Pp.path p n l):=
 (Pp.out_took hl (.fresh p rfl hp hm) (Pp.Took.took (L:=Pp.low n P n ⟨0,0,l⟩) A B x p rfl hp e hx)).2.1
theorem play_take_book (base bb n0:Nat)(fs:Facts)(X:Nat->Prop)(n:Nat)(hn:n<=31)(P:List Nat)(hP:P.length<=1000)(l:List UInt8)(hl:l.length = 32)(rb:Nat)(pl:Int){k:List UInt8}{er:Int}{P':List Nat}(ho:Pp.Out n P l pl k er P')(sl:Value)(w:World)(hR:RowIs w rb n sl (Pp.low n P n ⟨0,0,l⟩))(hbk:InBk w base bb fs n0 X)(hbase:base<=w.heap.size)(hX:∀ k,X k->k < w.heap.size)(hmk:MildK 99 fs n0)(hty:Typ w sl)(hbr:base<=rb):
  Calls Try.prog 29 #[.pointer (some ⟨rb,0,none⟩),.pointer (some ⟨bb,0,none⟩),.int .i64 pl] w λe w'=>e = .returned (.tuple #[.agg (bcells k).toArray,.int .i64 er])/\∃ sl',RowIs w' rb n sl' (Pp.low n P' n ⟨0,0,l⟩)/\InBk w' base bb (Pp.noted n P l pl fs) (n0 + 99) X/\BkBut base rb w w'/\NearT w w' sl sl':=by
 have hn2:n<=32:=by omega
 have hG:=(Pp.low_good n P n ⟨0,0,l⟩ ⟨Nat.zero_le _,Nat.one_pos,hl⟩ (Nat.zero_add _)).1;have hlen:=Pp.low_len32 n hn2 P hP l
 cases ho with
 | out h=>
  rw [Pp.noted_out n P l pl fs h];refine(take_no (some ⟨rb,0,none⟩) (.pointer (some ⟨bb,0,none⟩)) pl 0 1 (by decide) w (λw2 k=>find_out n hn2 _ rb sl pl w2 (hR.kept k) h)).mono ?_
  rintro e w' ⟨rfl,k⟩;exact⟨by rw [zeros_bcells],sl,hR.kept k,(hbk.kept k).upTo (by omega),(BkFr.ofKept hbase k).but,λ_ hk=>.inl hk⟩
 | gone p e hp hm=>
  subst e;rw [Pp.noted_gone n P l p fs hm];refine(take_no (some ⟨rb,0,none⟩) (.pointer (some ⟨bb,0,none⟩)) p 0 10 (by decide) w (λw2 k=>find_gone n hn2 _ rb sl p w2 (hR.kept k) hG (by omega) (by omega) (by omega) (λi hi hh=>Pp.low_none n P p hm n _ _ (List.getElem_mem hi) ⟨by omega,by omega⟩))).mono ?_
  rintro e w' ⟨rfl,k⟩;exact⟨by rw [zeros_bcells],sl,hR.kept k,(hbk.kept k).upTo (by omega),(BkFr.ofKept hbase k).but,λ_ hk=>.inl hk⟩
 | fresh p e hp hm=>
  subst e;rw [Pp.noted_fresh n P l p fs hp hm];obtain⟨A,x,B,h1,h2,h3⟩:=Pp.low_at n P l p hp hm;have hxm:x∈Pp.low n P n ⟨0,0,l⟩:=by rw [h1]; simp
  have hff:=Pp.found_facts n P p l hl hp x hxm h2 fs;have hkk:=Pp.key_at hl hp hm h1 h2;have hlt:=(hG.1 x hxm).1;rw [h1] at hR hG hlen;refine(take_bookX base bb n0 fs X n hn2 A B x rb sl p w hR hG (by omega) hp h2.1 h2.2 hbk hbase hX ⟨by have:=hmk.1; omega,by have:=hmk.2.1; omega,hmk.2.2⟩ hty hbr).mono ?_
  rintro e w' ⟨rfl,sl',hr,q,f,hn'⟩;rw [hff] at q;rw [<- h3] at hr;exact⟨by rw [hkk],sl',hr,q.upTo (by omega),f,hn'⟩
end Go.Proofs.Ytanfnafiofkihaa
