/-
 PrimMath; PrimOne: several texts in one.
-/
import Derived.Test.YtinebhdilnndaaaGreatDoorGI
import Derived.Test.YtinebhdilnndaaaGreatDoorGK
import Derived.Test.YtinebhdilnndaaaGreatDoorGA
set_option maxRecDepth 100000
set_option maxHeartbeats 1600000
namespace Go.Proofs.YtinebhdilnndaaaGreatDoor
open List renaming setIfInBounds_toArray -> sA, set_cons_zero -> sB, set_cons_succ -> sC
open BigFrame renaming wpList_want -> wQ
namespace Pm
def wPub:List UInt8:=[112,117,98]
def wMark:List UInt8:=[109,97,114,107]
def wVer:List UInt8:=[118,101,114]
def wKem:List UInt8:=[107,101,109]
def wSign:List UInt8:=[115,105,103,110]
def wStream:List UInt8:=[115,116,114,101,97,109]
def wTag:List UInt8:=[116,97,103]
def pub (k:List UInt8):List UInt8:=Sm.sum (wPub ++ k)
def mark (p:List UInt8):List UInt8:=Sm.sum (wMark ++ p)
def ver (k:List UInt8):List UInt8:=Sm.sum (wVer ++ k)
def kem (p o:List UInt8):List UInt8:=Sm.sum (wKem ++ p ++ o)
def sign (v t:List UInt8):List UInt8:=Mc.code v (wSign ++ t)
def both (a b:List UInt8):List UInt8:=List.zipWith (λx y=>x ^^^ y) a b
def under (k:List UInt8):List UInt8:=Mc.derive k wStream []
def cross (k s:List UInt8):List UInt8:=both s (Mc.stream (under k) s.length)
def tagKey (k:List UInt8):List UInt8:=Mc.derive k wTag []
def tag (k about c:List UInt8):List UInt8:=(Mc.derive (tagKey k) about c).take 16
def sealed (k about s:List UInt8):List UInt8:=cross k s ++ tag k about (cross k s)
def body (s:List UInt8):List UInt8:=s.take (s.length - 16)
def rest (s:List UInt8):List UInt8:=s.drop (s.length - 16)
def opened (k about s:List UInt8):List UInt8 × Nat:=
 if s.length < 16 then ([],2) else if 65552 < s.length then ([],5) else if tag k about (body s) = rest s then (cross k (body s),0) else ([],6)
def wrapped (p o about s:List UInt8):List UInt8:=o ++ sealed (kem p o) about s
def unwrapped (k about s:List UInt8):List UInt8 × Nat:=
 if s.length < 48 then ([],2) else opened (kem (pub k) (s.take 32)) about (s.drop 32)
theorem ver_length (k:List UInt8):(ver k).length = 32:=sum_length _
theorem sign_length (v t:List UInt8):(sign v t).length = 32:=Mc.code_length _ _
theorem under_length (k:List UInt8):(under k).length = 32:=Mc.derive_length _ _ _
end Pm
end Go.Proofs.YtinebhdilnndaaaGreatDoor
namespace Go.Proofs.YtinebhdilnndaaaGreatDoor
open List renaming setIfInBounds_toArray -> sA, set_cons_zero -> sB, set_cons_succ -> sC
open BigFrame renaming wpList_want -> wQ
open Go.RowKit
open Go.Lib (hid)
theorem sum_two (a b:ByteArray)(w:World)(ha:a.size < 268435456)(hb:b.size < 268435456):Calls Tryz.prog 91 #[.slice (some ⟨w.heap.size,0,none⟩) 2 2] (w.alloc (.cells #[.string a,.string b] 9)) λe w'=>e = .returned (.agg (bcells (Sm.sum (a.data.toList ++ b.data.toList))).toArray)/\Kept (w.heap.size + 1) (w.heap.size + 1) (w.alloc (.cells #[.string a,.string b] 9)) w':=by
 have hj:joined [a,b] [a,b].length = a.data.toList ++ b.data.toList:=by simp [joined]
 have ea:a.data.toList.length = a.size:=by simp
 have eb:b.data.toList.length = b.size:=by simp
 have:=sum_calls [a,b] (some ⟨w.heap.size,0,none⟩) 2 w.heap.size 0 (w.alloc (.cells #[.string a,.string b] 9)) (hid (by show 2 < _; decide)) (hid (by rw [hj,List.length_append,ea,eb]; omega)) (λj hj=>by
  refine⟨rfl,by simp,?_⟩
  have hj':j = 0\/j = 1:=by simp at hj; omega
  rcases hj' with rfl | rfl
  ·exact World.cell?_alloc_new w _ _ 0
  ·exact World.cell?_alloc_new w _ _ 1)
 rw [hj] at this;have hsz:(w.alloc (.cells #[.string a,.string b] 9)).heap.size = w.heap.size + 1:=by simp
 rw [hsz] at this;exact this
theorem text_calls (k:List UInt8)(hk:Hid (k.length = 32))(w:World):Calls Tryz.prog 81 #[.agg (bcells k).toArray] w λe w'=>e = .returned (.string (str k))/\Kept w.heap.size w.heap.size w w':=by
 obtain⟨sk,hsk⟩:∃ sk,sk = str k:=⟨_,rfl⟩;rw [<- hsk];have Hsk:=hid hsk;generalize hkc:(bcells k).toArray = kc;have Hkc:=hid hkc;clear hkc hsk
 go_enter Tryz.func81,Tryz.ntmps81
 go_upto_region 1 with fail
 have hP:(w.alloc (.cells kc 29)).heap[w.heap.size]? = some (.cells kc 29 (0,0)):=heap_new _ _
 have k1:Kept w.heap.size w.heap.size w (w.alloc (.cells kc 29)):=(Kept.refl _ _ _).alloc (Nat.le_refl _) _
 generalize w.alloc (.cells kc 29) = w1 at hP k1 |-
 obtain⟨wa,hwa⟩:∃ wa,wa = w.heap.size:=⟨_,rfl⟩;rw [<- hwa] at hP |-
 have cA:(convert 117 9 (.slice (some ⟨wa,0,none⟩) 32 32)).run Tryz.prog w1 = .ok (.string sk) w1:=by
  rw [Hsk.out];exact conv_hash hk.out (by rw [Hkc.out]; exact hP)
 clear hP hwa;go_wp2;go_ret;exact⟨rfl,k1⟩
theorem verify_calls (k:List UInt8)(hk:Hid (k.length = 32))(w:World):Calls Tryz.prog 79 #[.agg (bcells k).toArray] w λe w'=>e = .returned (.agg (bcells (Pm.ver k)).toArray)/\Kept w.heap.size w.heap.size w w':=by
 generalize hkc:(bcells k).toArray = kc;have Hkc:=hid hkc;clear hkc
 go_enter Tryz.func79,Tryz.ntmps79
 go_upto_region 1 with fail
 rw [zeros32_eq];have hP:((w.alloc (.cells kc 30)).alloc (.cells zeros32 30)).heap[w.heap.size]? = some (.cells kc 30 (0,0)):=heap_alloc2_old w _ _
 have hR:((w.alloc (.cells kc 30)).alloc (.cells zeros32 30)).heap[w.heap.size + 1]? = some (.cells zeros32 30 (0,0)):=heap_alloc2_last w _ _
 have k1:Kept w.heap.size w.heap.size w ((w.alloc (.cells kc 30)).alloc (.cells zeros32 30)):=((Kept.refl _ _ _).alloc (Nat.le_refl _) _).alloc (by simp) _
 have s1:((w.alloc (.cells kc 30)).alloc (.cells zeros32 30)).heap.size = w.heap.size + 2:=by simp
 generalize (w.alloc (.cells kc 30)).alloc (.cells zeros32 30) = w1 at hP hR k1 s1 |-
 obtain⟨wa,hwa⟩:∃ wa,wa = w.heap.size:=⟨_,rfl⟩;rw [<- hwa] at hP hR k1 s1 |-;have hrow:∀ w',Kept w1.heap.size w1.heap.size w1 w'->w'.heap[wa + 1]? = some (.cells zeros32 30 (0,0)):=λw' kk=>(kk.block (wa + 1) (by omega) (by omega)).trans hR
 have cA:(convert 117 9 (.slice (some ⟨wa,0,none⟩) 32 32)).run Tryz.prog w1 = .ok (.string (str k)) w1:=conv_hash hk.out (by rw [Hkc.out]; exact hP)
 have hcode:=sum_two ⟨#[118,101,114]⟩ (str k) w1 (by decide) (by rw [str_size,hk.out]; decide)
 rw [show Sm.sum ((⟨#[118,101,114]⟩:ByteArray).data.toList ++ (str k).data.toList) = Pm.ver k from rfl] at hcode;have hcs:(bcells (Pm.ver k)).toArray.size = 32:=by rw [List.size_toArray,bcells_length,Pm.ver_length]
 have hall:=bcells_all (Pm.ver k);generalize hcu:(bcells (Pm.ver k)).toArray = cu at hcode hcs hall;have hst:∀ w',w'.heap[wa + 1]? = some (.cells zeros32 30 (0,0))->(storeCells ⟨wa + 1,0,none⟩ cu.toList).run Tryz.prog w' = .ok () (w'.setRow (wa + 1) cu):=λw' h=>store_over w' (wa + 1) 30 zeros32 cu h (by rw [hcs]; rfl) hall
 have HST:=hid hst;have Hcs:=hid hcs;have Hcu:=hid hcu;have HROW:=hid hrow;have HK1:=hid k1;have HS1:=hid s1;have HWA:=hid hwa;clear hst hcs hcu hrow hall k1 s1 hwa;generalize str k = sk at cA hcode;have HCODE:=hid hcode;clear hcode hP hR
 go_wp2_with (go_at_call 91; refine HCODE.out.mono ?_; rintro e w8 ⟨rfl,k8⟩; have K8:Kept w1.heap.size w1.heap.size w1 w8:=((Kept.refl _ _ _).alloc (Nat.le_refl _) _).trans (k8.mono (Nat.le_succ _) (λi hi _=>by omega)); have h8:=HST.out w8 (HROW.out w8 K8))
 have t2:=setRow_heap w8 (wa + 1) zeros32 cu _ _ (HROW.out w8 K8)
 have t1:Kept w.heap.size w.heap.size w (w8.setRow (wa + 1) cu):=by
  have e1:=HWA.out;have e2:=HS1.out;refine Kept.trans (w2:=w8) ?_ ⟨rfl,rfl,rfl,by simp [World.setRow],λk hk _=>setRow_other w8 (wa + 1) k cu (by omega)⟩
  rw [<- e1];exact HK1.out.trans (K8.mono (by omega) (λk hk _=>by omega))
 have hcu:=Hcs.out;refine bodyPost_ret (results_cell_row rfl _ _ (wa + 1) 30 cu (0,0) _ rfl t2 Tryz.underlying30 rfl (by rw [shaInfo30,hcu])) rfl ?_
 exact⟨by rw [Hcu.out],t1⟩
theorem refver_calls (k:List UInt8)(hk:Hid (k.length = 32))(w:World):Calls Tryz.prog 51 #[.agg (bcells k).toArray] w λe w'=>e = .returned (.agg (bcells (Pm.ver k)).toArray)/\Kept w.heap.size w.heap.size w w':=by
 generalize hkc:(bcells k).toArray = kc;have Hkc:=hid hkc;clear hkc
 go_enter Tryz.func51,Tryz.ntmps51
 go_upto_region 1 with fail
 rw [zeros32_eq];have hP:((w.alloc (.cells kc 29)).alloc (.cells zeros32 29)).heap[w.heap.size]? = some (.cells kc 29 (0,0)):=heap_alloc2_old w _ _
 have hR:((w.alloc (.cells kc 29)).alloc (.cells zeros32 29)).heap[w.heap.size + 1]? = some (.cells zeros32 29 (0,0)):=heap_alloc2_last w _ _
 have k1:Kept w.heap.size w.heap.size w ((w.alloc (.cells kc 29)).alloc (.cells zeros32 29)):=((Kept.refl _ _ _).alloc (Nat.le_refl _) _).alloc (by simp) _
 have s1:((w.alloc (.cells kc 29)).alloc (.cells zeros32 29)).heap.size = w.heap.size + 2:=by simp
 generalize (w.alloc (.cells kc 29)).alloc (.cells zeros32 29) = w1 at hP hR k1 s1 |-
 obtain⟨wa,hwa⟩:∃ wa,wa = w.heap.size:=⟨_,rfl⟩;rw [<- hwa] at hP hR k1 s1 |-;have hrow:∀ w',Kept w1.heap.size w1.heap.size w1 w'->w'.heap[wa + 1]? = some (.cells zeros32 29 (0,0)):=λw' kk=>(kk.block (wa + 1) (by omega) (by omega)).trans hR
 have htx:Calls Tryz.prog 81 #[.agg kc] w1 λe w'=>e = .returned (.string (str k))/\Kept w1.heap.size w1.heap.size w1 w':=by
  rw [<- Hkc.out];exact text_calls k hk w1
 have hq:(str k).size<=100:=by rw [str_size,hk.out]; decide
 have hcode:∀ w',Calls Tryz.prog 80 #[.string (⟨#[118,101,114]⟩ ++ str k)] w' λe w''=>e = .returned (.agg (bcells (Pm.ver k)).toArray)/\Kept w'.heap.size w'.heap.size w' w'':=λw'=>by
  have:=refsum_calls (⟨#[118,101,114]⟩ ++ str k) w' (by rw [ByteArray.size_append]; show 3 + _<=_; omega)
  rw [ByteArray.data_append,Array.toList_append] at this;exact this
 have hia:(Tryz.prog.info? 29).map (·.size) = some kc.size:=by rw [macInfo24,<- Hkc.out,List.size_toArray,bcells_length,hk.out]
 have hcs:(bcells (Pm.ver k)).toArray.size = 32:=by rw [List.size_toArray,bcells_length,Pm.ver_length]
 have hall:=bcells_all (Pm.ver k);generalize hcu:(bcells (Pm.ver k)).toArray = cu at hcode hcs hall;have hst:∀ w',w'.heap[wa + 1]? = some (.cells zeros32 29 (0,0))->(storeCells ⟨wa + 1,0,none⟩ cu.toList).run Tryz.prog w' = .ok () (w'.setRow (wa + 1) cu):=λw' h=>store_over w' (wa + 1) 29 zeros32 cu h (by rw [hcs]; rfl) hall
 have HST:=hid hst;have Hcs:=hid hcs;have Hcu:=hid hcu;have HROW:=hid hrow;have HK1:=hid k1;have HS1:=hid s1;have HWA:=hid hwa;clear hst hcs hcu hrow hall k1 s1 hwa;generalize str k = sk at htx hcode hq;have HCODE:=hid hcode;have HTX:=hid htx;have HP:=hid hP;have HIA:=hid hia;clear hcode htx hP hR hia
 go_wp2_with (first
  | (with_reducible refine wpList_load_row rfl 29 _ rfl wa rfl 29 kc (0,0) _ HP.out Tryz.underlying29 rfl HIA.out ?_)
  | (go_at_call 81; refine HTX.out.mono ?_; rintro e w7 ⟨rfl,k7⟩)
  | (go_at_call 80; refine(HCODE.out _).mono ?_; rintro e w8 ⟨rfl,k8⟩; have K8:Kept w1.heap.size w1.heap.size w1 w8:=k7.trans (k8.mono k7.size (λi hi _=>by have:=k7.size; omega)); have h8:=HST.out w8 (HROW.out w8 K8)))
 have t2:=setRow_heap w8 (wa + 1) zeros32 cu _ _ (HROW.out w8 K8)
 have t1:Kept w.heap.size w.heap.size w (w8.setRow (wa + 1) cu):=by
  have e1:=HWA.out;have e2:=HS1.out;refine Kept.trans (w2:=w8) ?_ ⟨rfl,rfl,rfl,by simp [World.setRow],λk hk _=>setRow_other w8 (wa + 1) k cu (by omega)⟩
  rw [<- e1];exact HK1.out.trans (K8.mono (by omega) (λk hk _=>by omega))
 have hcu:=Hcs.out;refine bodyPost_ret (results_cell_row rfl _ _ (wa + 1) 29 cu (0,0) _ rfl t2 Tryz.underlying29 rfl (by rw [macInfo24,hcu])) rfl ?_
 exact⟨by rw [Hcu.out],t1⟩
theorem signature_calls (k:List UInt8)(hk:Hid (k.length = 32))(t:ByteArray)(ht:t.size < 268435456)(w:World):Calls Tryz.prog 74 #[.agg (bcells k).toArray,.string t] w λe w'=>e = .returned (.agg (bcells (Pm.sign k t.data.toList)).toArray)/\Kept w.heap.size w.heap.size w w':=by
 generalize hkc:(bcells k).toArray = kc;have Hkc:=hid hkc;clear hkc
 go_enter Tryz.func74,Tryz.ntmps74
 go_upto_region 1 with fail
 rw [zeros32_eq];have hP:((w.alloc (.cells kc 30)).alloc (.cells zeros32 30)).heap[w.heap.size]? = some (.cells kc 30 (0,0)):=heap_alloc2_old w _ _
 have hR:((w.alloc (.cells kc 30)).alloc (.cells zeros32 30)).heap[w.heap.size + 1]? = some (.cells zeros32 30 (0,0)):=heap_alloc2_last w _ _
 have k1:Kept w.heap.size w.heap.size w ((w.alloc (.cells kc 30)).alloc (.cells zeros32 30)):=((Kept.refl _ _ _).alloc (Nat.le_refl _) _).alloc (by simp) _
 have s1:((w.alloc (.cells kc 30)).alloc (.cells zeros32 30)).heap.size = w.heap.size + 2:=by simp
 generalize (w.alloc (.cells kc 30)).alloc (.cells zeros32 30) = w1 at hP hR k1 s1 |-
 obtain⟨wa,hwa⟩:∃ wa,wa = w.heap.size:=⟨_,rfl⟩;rw [<- hwa] at hP hR k1 s1 |-;have hrow:∀ w',Kept w1.heap.size w1.heap.size w1 w'->w'.heap[wa + 1]? = some (.cells zeros32 30 (0,0)):=λw' kk=>(kk.block (wa + 1) (by omega) (by omega)).trans hR
 have cA:(convert 117 9 (.slice (some ⟨wa,0,none⟩) 32 32)).run Tryz.prog w1 = .ok (.string (str k)) w1:=conv_hash hk.out (by rw [Hkc.out]; exact hP)
 have hcode:Calls Tryz.prog 98 #[.string (str k),.slice (some ⟨w1.heap.size,0,none⟩) 2 2] (w1.alloc (.cells #[.string ⟨#[115,105,103,110]⟩,.string t] 9)) λe w'=>e = .returned (.agg (bcells (Pm.sign k t.data.toList)).toArray)/\Kept (w1.heap.size + 1) (w1.heap.size + 1) (w1.alloc (.cells #[.string ⟨#[115,105,103,110]⟩,.string t] 9)) w':=by
  have hj:joined [⟨#[115,105,103,110]⟩,t] [(⟨#[115,105,103,110]⟩:ByteArray),t].length = Pm.wSign ++ t.data.toList:=by simp [joined,Pm.wSign]
  have et:t.data.toList.length = t.size:=by simp
  have:=code_calls (str k) (hid (by rw [str_size,hk.out]; decide)) [⟨#[115,105,103,110]⟩,t] (some ⟨w1.heap.size,0,none⟩) 2 w1.heap.size 0 (w1.alloc (.cells #[.string ⟨#[115,105,103,110]⟩,.string t] 9)) (hid (by show 2 < _; decide)) (hid (by rw [hj,List.length_append,et]; show 4 + _ < _; omega)) (hid λh=>by cases h) (λj hj=>by
   refine⟨rfl,by simp,?_⟩
   have hj':j = 0\/j = 1:=by simp at hj; omega
   rcases hj' with rfl | rfl
   ·exact World.cell?_alloc_new w1 _ _ 0
   ·exact World.cell?_alloc_new w1 _ _ 1)
  rw [hj,str_data] at this;have hsz:(w1.alloc (.cells #[.string ⟨#[115,105,103,110]⟩,.string t] 9)).heap.size = w1.heap.size + 1:=by simp
  rw [hsz] at this;exact this
 have hcs:(bcells (Pm.sign k t.data.toList)).toArray.size = 32:=by rw [List.size_toArray,bcells_length,Pm.sign_length]
 have hall:=bcells_all (Pm.sign k t.data.toList);generalize hcu:(bcells (Pm.sign k t.data.toList)).toArray = cu at hcode hcs hall;have hst:∀ w',w'.heap[wa + 1]? = some (.cells zeros32 30 (0,0))->(storeCells ⟨wa + 1,0,none⟩ cu.toList).run Tryz.prog w' = .ok () (w'.setRow (wa + 1) cu):=λw' h=>store_over w' (wa + 1) 30 zeros32 cu h (by rw [hcs]; rfl) hall
 have HST:=hid hst;have Hcs:=hid hcs;have Hcu:=hid hcu;have HROW:=hid hrow;have HK1:=hid k1;have HS1:=hid s1;have HWA:=hid hwa;clear hst hcs hcu hrow hall k1 s1 hwa;generalize str k = sk at cA hcode;have HCODE:=hid hcode;clear hcode hP hR
 go_wp2_with (go_at_call 98; refine HCODE.out.mono ?_; rintro e w8 ⟨rfl,k8⟩; have K8:Kept w1.heap.size w1.heap.size w1 w8:=((Kept.refl _ _ _).alloc (Nat.le_refl _) _).trans (k8.mono (Nat.le_succ _) (λi hi _=>by omega)); have h8:=HST.out w8 (HROW.out w8 K8))
 have t2:=setRow_heap w8 (wa + 1) zeros32 cu _ _ (HROW.out w8 K8)
 have t1:Kept w.heap.size w.heap.size w (w8.setRow (wa + 1) cu):=by
  have e1:=HWA.out;have e2:=HS1.out;refine Kept.trans (w2:=w8) ?_ ⟨rfl,rfl,rfl,by simp [World.setRow],λk hk _=>setRow_other w8 (wa + 1) k cu (by omega)⟩
  rw [<- e1];exact HK1.out.trans (K8.mono (by omega) (λk hk _=>by omega))
 have hcu:=Hcs.out;refine bodyPost_ret (results_cell_row rfl _ _ (wa + 1) 30 cu (0,0) _ rfl t2 Tryz.underlying30 rfl (by rw [shaInfo30,hcu])) rfl ?_
 exact⟨by rw [Hcu.out],t1⟩
theorem sign_calls (k:List UInt8)(hk:Hid (k.length = 32))(t:ByteArray)(ht:t.size < 268435456)(w:World):Calls Tryz.prog 50 #[.agg (bcells k).toArray,.string t] w λe w'=>e = .returned (.agg (bcells (Pm.sign (Pm.ver k) t.data.toList)).toArray)/\Kept w.heap.size w.heap.size w w':=by
 generalize hkc:(bcells k).toArray = kc;have Hkc:=hid hkc;clear hkc
 go_enter Tryz.func50,Tryz.ntmps50
 go_upto_region 1 with fail
 rw [zeros32_eq];have hP:((w.alloc (.cells kc 30)).alloc (.cells zeros32 30)).heap[w.heap.size]? = some (.cells kc 30 (0,0)):=heap_alloc2_old w _ _
 have hR:((w.alloc (.cells kc 30)).alloc (.cells zeros32 30)).heap[w.heap.size + 1]? = some (.cells zeros32 30 (0,0)):=heap_alloc2_last w _ _
 have k1:Kept w.heap.size w.heap.size w ((w.alloc (.cells kc 30)).alloc (.cells zeros32 30)):=((Kept.refl _ _ _).alloc (Nat.le_refl _) _).alloc (by simp) _
 have s1:((w.alloc (.cells kc 30)).alloc (.cells zeros32 30)).heap.size = w.heap.size + 2:=by simp
 generalize (w.alloc (.cells kc 30)).alloc (.cells zeros32 30) = w1 at hP hR k1 s1 |-
 obtain⟨wa,hwa⟩:∃ wa,wa = w.heap.size:=⟨_,rfl⟩;rw [<- hwa] at hP hR k1 s1 |-;have hrow:∀ w',Kept w1.heap.size w1.heap.size w1 w'->w'.heap[wa + 1]? = some (.cells zeros32 30 (0,0)):=λw' kk=>(kk.block (wa + 1) (by omega) (by omega)).trans hR
 have hve:Calls Tryz.prog 79 #[.agg kc] w1 λe w'=>e = .returned (.agg (bcells (Pm.ver k)).toArray)/\Kept w1.heap.size w1.heap.size w1 w':=by
  rw [<- Hkc.out];exact verify_calls k hk w1
 have hcode:∀ w',Calls Tryz.prog 74 #[.agg (bcells (Pm.ver k)).toArray,.string t] w' λe w''=>e = .returned (.agg (bcells (Pm.sign (Pm.ver k) t.data.toList)).toArray)/\Kept w'.heap.size w'.heap.size w' w'':=λw'=>signature_calls (Pm.ver k) (hid (Pm.ver_length k)) t ht w'
 have hia:(Tryz.prog.info? 30).map (·.size) = some kc.size:=by rw [shaInfo30,<- Hkc.out,List.size_toArray,bcells_length,hk.out]
 have hcs:(bcells (Pm.sign (Pm.ver k) t.data.toList)).toArray.size = 32:=by rw [List.size_toArray,bcells_length,Pm.sign_length]
 have hall:=bcells_all (Pm.sign (Pm.ver k) t.data.toList);generalize hcu:(bcells (Pm.sign (Pm.ver k) t.data.toList)).toArray = cu at hcode hcs hall;have hst:∀ w',w'.heap[wa + 1]? = some (.cells zeros32 30 (0,0))->(storeCells ⟨wa + 1,0,none⟩ cu.toList).run Tryz.prog w' = .ok () (w'.setRow (wa + 1) cu):=λw' h=>store_over w' (wa + 1) 30 zeros32 cu h (by rw [hcs]; rfl) hall
 have HST:=hid hst;have Hcs:=hid hcs;have Hcu:=hid hcu;have HROW:=hid hrow;have HK1:=hid k1;have HS1:=hid s1;have HWA:=hid hwa;clear hst hcs hcu hrow hall k1 s1 hwa;generalize (bcells (Pm.ver k)).toArray = cv at hve hcode;have HCODE:=hid hcode;have HVE:=hid hve;have HP:=hid hP;have HIA:=hid hia;clear hcode hve hP hR hia
 go_wp2_with (first
  | (with_reducible refine wpList_load_row rfl 30 _ rfl wa rfl 30 kc (0,0) _ HP.out Tryz.underlying30 rfl HIA.out ?_)
  | (go_at_call 79; refine HVE.out.mono ?_; rintro e w7 ⟨rfl,k7⟩)
  | (go_at_call 74; refine(HCODE.out _).mono ?_; rintro e w8 ⟨rfl,k8⟩; have K8:Kept w1.heap.size w1.heap.size w1 w8:=k7.trans (k8.mono k7.size (λi hi _=>by have:=k7.size; omega)); have h8:=HST.out w8 (HROW.out w8 K8)))
 have t2:=setRow_heap w8 (wa + 1) zeros32 cu _ _ (HROW.out w8 K8)
 have t1:Kept w.heap.size w.heap.size w (w8.setRow (wa + 1) cu):=by
  have e1:=HWA.out;have e2:=HS1.out;refine Kept.trans (w2:=w8) ?_ ⟨rfl,rfl,rfl,by simp [World.setRow],λk hk _=>setRow_other w8 (wa + 1) k cu (by omega)⟩
  rw [<- e1];exact HK1.out.trans (K8.mono (by omega) (λk hk _=>by omega))
 have hcu:=Hcs.out;refine bodyPost_ret (results_cell_row rfl _ _ (wa + 1) 30 cu (0,0) _ rfl t2 Tryz.underlying30 rfl (by rw [shaInfo30,hcu])) rfl ?_
 exact⟨by rw [Hcu.out],t1⟩
theorem check_calls (v c:List UInt8)(hv:Hid (v.length = 32))(hc:Hid (c.length = 32))(t:ByteArray)(ht:t.size < 268435456)(w:World):Calls Tryz.prog 48 #[.agg (bcells v).toArray,.string t,.agg (bcells c).toArray] w λe w'=>e = .returned (.bool (c == Pm.sign v t.data.toList))/\Kept w.heap.size w.heap.size w w':=by
 have heq:=λw=>hash_equalIn w c (Pm.sign v t.data.toList) hc.out (Pm.sign_length _ _)
 have hcode:∀ w',Calls Tryz.prog 74 #[.agg (bcells v).toArray,.string t] w' λe w''=>e = .returned (.agg (bcells (Pm.sign v t.data.toList)).toArray)/\Kept w'.heap.size w'.heap.size w' w'':=λw'=>signature_calls v hv t ht w'
 generalize (c == Pm.sign v t.data.toList) = q at heq |-;generalize (bcells (Pm.sign v t.data.toList)).toArray = cu at heq hcode;have iv:(Tryz.prog.info? 30).map (·.size) = some (bcells v).toArray.size:=by rw [shaInfo30,List.size_toArray,bcells_length,hv.out]
 have ic:(Tryz.prog.info? 30).map (·.size) = some (bcells c).toArray.size:=by rw [shaInfo30,List.size_toArray,bcells_length,hc.out]
 generalize (bcells v).toArray = vc at hcode iv |-;generalize (bcells c).toArray = cc at heq ic |-;have gd:=macGuard25
 go_enter Tryz.func48,Tryz.ntmps48
 go_upto_region 1 with fail
 have hV:((w.alloc (.cells vc 30)).alloc (.cells cc 30)).heap[w.heap.size]? = some (.cells vc 30 (0,0)):=heap_alloc2_old w _ _
 have hC:((w.alloc (.cells vc 30)).alloc (.cells cc 30)).heap[w.heap.size + 1]? = some (.cells cc 30 (0,0)):=heap_alloc2_last w _ _
 have k1:Kept w.heap.size w.heap.size w ((w.alloc (.cells vc 30)).alloc (.cells cc 30)):=((Kept.refl _ _ _).alloc (Nat.le_refl _) _).alloc (by simp) _
 generalize (w.alloc (.cells vc 30)).alloc (.cells cc 30) = w1 at hV hC k1 |-
 obtain⟨wa,hwa⟩:∃ wa,wa = w.heap.size:=⟨_,rfl⟩;rw [<- hwa] at hV hC |-
 have hld:∀ w',Kept w1.heap.size w1.heap.size w1 w'->(loadVar 30 ⟨wa,0,none⟩).run Tryz.prog w' = .ok (.agg vc) w'/\(loadVar 30 ⟨wa + 1,0,none⟩).run Tryz.prog w' = .ok (.agg cc) w':=λw' kk=>
  ⟨run_loadVar_row w' wa 30 30 vc (0,0) _ (rk hV kk) Tryz.underlying30 rfl iv,run_loadVar_row w' (wa + 1) 30 30 cc (0,0) _ (rk hC kk) Tryz.underlying30 rfl ic⟩
 have HLD:=hid hld;have HCODE:=hid hcode;have K1:=hid k1;clear hld hcode k1 hV hC hwa iv ic;refine wp_region_noPanic ?_;refine wp_region_held_drew (S:=λw'=>Kept w1.heap.size w1.heap.size w1 w') (by kernel_rfl) ((Kept.refl _ _ _).drew) (λhH=>?_)
 refine tkA (i:=0) 7 (.agg cc) rfl (yieldsIf_load_known (by rfl) 30 _ rfl (wa + 1) (0) rfl (.agg cc) (λw' hw'=>(HLD.out w' hw').2)) hH ?_
 simp only [sA,sB,sC];refine tkA (i:=1) 8 (.agg vc) rfl (yieldsIf_load_known (by rfl) 30 _ rfl (wa) (0) rfl (.agg vc) (λw' hw'=>(HLD.out w' hw').1)) hH ?_
 simp only [sA,sB,sC];refine tkA (i:=2) 9 (.string t) rfl (.inl ⟨by rfl,λw9 _=>by go_simp⟩) hH ?_
 simp only [sA,sB,sC];refine wpAnyH_ready (rs:=[3]) (by kernel_rfl) (by simp) ?_
 refine AllReadyH.cons rfl (λK hK=>?_) AllReadyH.nil
 rw [if_pos (by rfl)]
 go_simp
 go_wp2_with (go_at_call 74; refine(HCODE.out _).mono ?_; rintro e w8 ⟨rfl,k8⟩)
 have K8:Kept w1.heap.size w1.heap.size w1 w8:=(Kept.refl _ _ _).drew.trans k8;refine hK.out _ _ (K8) (λhH=>?_)
 clear hK K;refine tkA (i:=4) 11 (.bool q) rfl (.inl ⟨by rfl,λw9 _=>by go_simp⟩) hH ?_
 simp only [sA,sB,sC];refine tkA (i:=5) 6 (.bool q) rfl (.inl ⟨by rfl,λw9 _=>by go_simp⟩) hH ?_
 simp only [sA,sB,sC];refine wpAnyH_done (by kernel_rfl) ?_ _
 refine NoPanic.normal ?_;go_wp2;go_ret;exact⟨rfl,K1.out.trans (K8.mono K1.out.size (λi hi _=>by have:=K1.out.size; omega))⟩
end Go.Proofs.YtinebhdilnndaaaGreatDoor
