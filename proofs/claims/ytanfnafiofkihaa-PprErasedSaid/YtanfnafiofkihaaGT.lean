/-
 PprRef; PprLow; PprAt: several texts in one.
-/
import Derived.Test.YtanfnafiofkihaaGS
import Derived.Test.YtanfnafiofkihaaGJ
import Derived.Test.YtanfnafiofkihaaGL
import Derived.StillTailTactics
set_option maxRecDepth 100000
set_option maxHeartbeats 6400000
namespace Go.Proofs.Ytanfnafiofkihaa
open Go.RowKit Go.Lib
open List renaming setIfInBounds_toArray -> sA, set_cons_zero -> sB, set_cons_succ -> sC
open BigFrame renaming wpList_want -> wQ
theorem Kept.next1 {w w1 w2:World}(h:Kept w.heap.size w.heap.size w w1)(k:Kept w1.heap.size w1.heap.size w1 w2):Kept w.heap.size w.heap.size w w2:=
 h.trans (k.mono h.size (λ_ hi _=>Nat.ne_of_lt (Nat.lt_of_lt_of_le hi h.size)))
theorem power_calls (n:Nat)(hn:n<=32)(w:World):Calls Try.prog 54 #[.int .i64 (n:Int)] w λe w'=>e = .returned (.int .i64 ((2 ^ n:Nat):Int))/\w' = w:=by
 have hn32:(n:Int)<=32:=by omega
 have HB:=hid (λi (hi:i<=n)=>Nat.pow_le_pow_right (n:=2) (by decide) (Nat.le_trans hi hn))
 go_enter Try.func54,Try.ntmps54
 go_wp2
 go_loopw [3,4] (λs3 s4 w9=>∃ i:Nat,s3 = .int .i64 ((2 ^ i:Nat):Int)/\s4 = .int .i64 (i:Int)/\Hid (i<=n)/\w9 = w) (λ_ s4 _=>n - (RowKit.intOf s4).toNat)
 case atStart=>exact⟨0,rfl,rfl,hid (Nat.zero_le _),rfl⟩
 case round=>
  obtain⟨i,rfl,rfl,hi,hw⟩:=hrel;subst wr;have hb:=HB.out i hi.out;have HP:Hid (2 ^ (i + 1) = 2 * 2 ^ i):=hid (by rw [Nat.pow_succ]; omega)
  by_cases hc:i < n
  ·have hc':(i:Int) < (n:Int):=by omega
   generalize hk:2 ^ i = k at hb HP |-;have HC:=hid hc;have hk4:(k:Int)<=4294967296:=by omega
   clear hc hk hb;go_wp2
   go_roundw
   case rel=>exact⟨i + 1,by rw [HP.out]; simp,by simp,hid HC.out,trivial⟩
   case measure=>have:=HC.out; simp [RowKit.intOf]; omega
  ·have hc':¬ (i:Int) < (n:Int):=by omega
   have hin:i = n:=by have:=hi.out; omega
   have HIN:=hid hin;clear hin hb hc;generalize hk:((2 ^ i:Nat):Int) = k;have HK:=hid hk;clear hk;go_wp2;go_ret;exact⟨by rw [<- HK.out]; simp [HIN.out],rfl⟩
def refRow (l:List UInt8)(bits:Nat)(T:Value):Array Value:=(bcells l ++ [.int .i64 (bits:Int),T]).toArray
theorem refRow_size {l:List UInt8}(h:l.length = 32)(bits:Nat)(T:Value):(refRow l bits T).size = 34:=by simp [refRow,bcells_length,h]
theorem refRow_bits {w:World}{b:Nat}{t:TypeId}{l:List UInt8}(hl:l.length = 32){bits:Nat}{T:Value}(h:w.heap[b]? = some (.cells (refRow l bits T) t (0,0))):w.cell? ⟨b,32,none⟩ = some (.int .i64 (bits:Int)):=by
 rw [cell_of_row w b 32 _ _ _ h,refRow];simp [bcells_length,hl]
theorem refdown_right (k:List UInt8)(hk:k.length = 32)(w:World):Calls Try.prog 58 #[.agg (bcells k).toArray,.bool true] w λe w'=>e = .returned (.agg (bcells (Sm.sum (Pp.wRight ++ k))).toArray)/\Kept w.heap.size w.heap.size w w':=by
 have hsum:=λw=>refsum_calls (⟨#[114,105,103,104,116]⟩ ++ str k) w (by have h:(str k).size = 32:=(str_size k).trans hk; simp [ByteArray.size_append,h]; decide)
 rw [show Sm.sum ((⟨#[114,105,103,104,116]⟩ ++ str k:ByteArray)).data.toList = Sm.sum (Pp.wRight ++ k) by congr 1] at hsum
 have hml:(Sm.sum (Pp.wRight ++ k)).length = 32:=sum_length _;generalize Sm.sum (Pp.wRight ++ k) = m at hsum hml |-;obtain⟨MD,hMD⟩:∃ MD,MD = (bcells m).toArray:=⟨_,rfl⟩;have HMS:=hid (show MD.size = 32 by rw [hMD,List.size_toArray,bcells_length]; exact hml)
 have HMA:=hid (show MD.all (·.oneCell') = true by rw [hMD]; exact bcells_all _)
 have HMI:=hid (show(Try.prog.info? 25).map (·.size) = some MD.size by rw [HMS.out]; kernel_rfl)
 simp only [<- hMD] at hsum;rw [<- hMD];obtain⟨sk,hsk⟩:∃ sk,sk = str k:=⟨_,rfl⟩;have HSKS:=hid (show sk.size = 32 by rw [hsk,str_size,hk])
 generalize hkc:(bcells k).toArray = kc;simp only [<- hsk] at hsum;have HSUM:=hid hsum;have Hsk:=hid hsk;have Hkc:=hid hkc;have HK32:=hid hk;have hsk32:=HSKS.out;clear hsum hml hMD hsk hkc hk
 go_enter Try.func58,Try.ntmps58
 go_upto_region 1 with fail
 rw [zeros32_eq];have hP:((w.alloc (.cells kc 25)).alloc (.cells zeros32 25)).heap[w.heap.size]? = some (.cells kc 25 (0,0)):=heap_alloc2_old w _ _
 have hR:((w.alloc (.cells kc 25)).alloc (.cells zeros32 25)).heap[w.heap.size + 1]? = some (.cells zeros32 25 (0,0)):=heap_alloc2_last w _ _
 have k1:Kept w.heap.size w.heap.size w ((w.alloc (.cells kc 25)).alloc (.cells zeros32 25)):=((Kept.refl _ _ _).alloc (Nat.le_refl _) _).alloc (by simp) _
 generalize (w.alloc (.cells kc 25)).alloc (.cells zeros32 25) = w1 at hP hR k1 |-
 obtain⟨wa,hwa⟩:∃ wa,wa = w.heap.size:=⟨_,rfl⟩;rw [<- hwa] at hP hR |-
 have cA:(convert 45 9 (.slice (some ⟨wa,0,none⟩) 32 32)).run Try.prog w1 = .ok (.string sk) w1:=by
  rw [Hsk.out];exact conv_hash HK32.out (by rw [Hkc.out]; exact hP)
 have HR:=hid hR;have K1:=hid k1;have HWA:=hid hwa;clear hP hR k1 hwa
 go_upto_region 2 with fail
 refine wp_region_lit ?_;iterate 3 (refine wW λK hK=>?_;go_simp;apply hK;clear hK K)
 refine wW λK hK=>?_;go_simp;go_at_call 41
 refine(HSUM.out _).mono ?_;rintro e w2 ⟨rfl,k2⟩;apply hK;clear hK K;have R2:=hid (rk HR.out k2);have K2:=hid (K1.out.next1 k2);clear k2;refine wpList_store_row rfl 25 _ _ rfl (wa + 1) MD rfl rfl 25 zeros32 (R2.out) (HMI.out) (by rw [zeros32_size,HMS.out]) (HMA.out) ?_
 simp only [Act.put];have k3:Kept w.heap.size w.heap.size w (w2.setRow (wa + 1) MD):=K2.out.trans ⟨rfl,rfl,rfl,by simp [World.setRow],λk hk _=>setRow_other w2 (wa + 1) k MD (by have:=HWA.out; omega)⟩
 have r3:=setRow_heap w2 (wa + 1) zeros32 MD _ _ R2.out;generalize w2.setRow (wa + 1) MD = w3 at k3 r3 |-;go_wp2;refine bodyPost_ret (results_cell_row rfl _ _ (wa + 1) 25 MD (0,0) _ rfl r3 Try.underlying25 rfl HMI.out) rfl ?_
 exact⟨rfl,k3⟩
theorem refdown_left (k:List UInt8)(hk:k.length = 32)(w:World):Calls Try.prog 58 #[.agg (bcells k).toArray,.bool false] w λe w'=>e = .returned (.agg (bcells (Sm.sum (Pp.wLeft ++ k))).toArray)/\Kept w.heap.size w.heap.size w w':=by
 have hsum:=λw=>refsum_calls (⟨#[108,101,102,116]⟩ ++ str k) w (by have h:(str k).size = 32:=(str_size k).trans hk; simp [ByteArray.size_append,h]; decide)
 rw [show Sm.sum ((⟨#[108,101,102,116]⟩ ++ str k:ByteArray)).data.toList = Sm.sum (Pp.wLeft ++ k) by congr 1] at hsum
 have hml:(Sm.sum (Pp.wLeft ++ k)).length = 32:=sum_length _;generalize Sm.sum (Pp.wLeft ++ k) = m at hsum hml |-;obtain⟨MD,hMD⟩:∃ MD,MD = (bcells m).toArray:=⟨_,rfl⟩;have HMS:=hid (show MD.size = 32 by rw [hMD,List.size_toArray,bcells_length]; exact hml)
 have HMA:=hid (show MD.all (·.oneCell') = true by rw [hMD]; exact bcells_all _)
 have HMI:=hid (show(Try.prog.info? 25).map (·.size) = some MD.size by rw [HMS.out]; kernel_rfl)
 simp only [<- hMD] at hsum;rw [<- hMD];obtain⟨sk,hsk⟩:∃ sk,sk = str k:=⟨_,rfl⟩;have HSKS:=hid (show sk.size = 32 by rw [hsk,str_size,hk])
 generalize hkc:(bcells k).toArray = kc;simp only [<- hsk] at hsum;have HSUM:=hid hsum;have Hsk:=hid hsk;have Hkc:=hid hkc;have HK32:=hid hk;have hsk32:=HSKS.out;clear hsum hml hMD hsk hkc hk
 go_enter Try.func58,Try.ntmps58
 go_upto_region 1 with fail
 rw [zeros32_eq];have hP:((w.alloc (.cells kc 25)).alloc (.cells zeros32 25)).heap[w.heap.size]? = some (.cells kc 25 (0,0)):=heap_alloc2_old w _ _
 have hR:((w.alloc (.cells kc 25)).alloc (.cells zeros32 25)).heap[w.heap.size + 1]? = some (.cells zeros32 25 (0,0)):=heap_alloc2_last w _ _
 have k1:Kept w.heap.size w.heap.size w ((w.alloc (.cells kc 25)).alloc (.cells zeros32 25)):=((Kept.refl _ _ _).alloc (Nat.le_refl _) _).alloc (by simp) _
 generalize (w.alloc (.cells kc 25)).alloc (.cells zeros32 25) = w1 at hP hR k1 |-
 obtain⟨wa,hwa⟩:∃ wa,wa = w.heap.size:=⟨_,rfl⟩;rw [<- hwa] at hP hR |-
 have cA:(convert 45 9 (.slice (some ⟨wa,0,none⟩) 32 32)).run Try.prog w1 = .ok (.string sk) w1:=by
  rw [Hsk.out];exact conv_hash HK32.out (by rw [Hkc.out]; exact hP)
 have HR:=hid hR;have K1:=hid k1;have HWA:=hid hwa;clear hP hR k1 hwa
 go_upto_region 3 with fail
 refine wp_region_lit ?_;iterate 3 (refine wW λK hK=>?_;go_simp;apply hK;clear hK K)
 refine wW λK hK=>?_;go_simp;go_at_call 41
 refine(HSUM.out _).mono ?_;rintro e w2 ⟨rfl,k2⟩;apply hK;clear hK K;have R2:=hid (rk HR.out k2);have K2:=hid (K1.out.next1 k2);clear k2;refine wpList_store_row rfl 25 _ _ rfl (wa + 1) MD rfl rfl 25 zeros32 (R2.out) (HMI.out) (by rw [zeros32_size,HMS.out]) (HMA.out) ?_
 simp only [Act.put];have k3:Kept w.heap.size w.heap.size w (w2.setRow (wa + 1) MD):=K2.out.trans ⟨rfl,rfl,rfl,by simp [World.setRow],λk hk _=>setRow_other w2 (wa + 1) k MD (by have:=HWA.out; omega)⟩
 have r3:=setRow_heap w2 (wa + 1) zeros32 MD _ _ R2.out;generalize w2.setRow (wa + 1) MD = w3 at k3 r3 |-;go_wp2;refine bodyPost_ret (results_cell_row rfl _ _ (wa + 1) 25 MD (0,0) _ rfl r3 Try.underlying25 rfl HMI.out) rfl ?_
 exact⟨rfl,k3⟩
namespace Pp
def path (pl:Nat):Nat->List UInt8->List UInt8
 | 0,s=>s
 | n + 1,s=>path pl n (if pl / 2 ^ n % 2 = 1 then Sm.sum (wRight ++ s) else Sm.sum (wLeft ++ s))
theorem leaf_path (bits pl:Nat):∀ (n:Nat) (s:Sd),s.level + n = bits->start bits s<=pl->pl < stop bits s->(leaf bits pl n s).self = path pl n s.self
 | 0,_,_,_,_=>rfl
 | n + 1,s,hn,h1,h2=>by
  have hl:s.level < bits:=by omega
  have e1:bits - (s.level + 1) = n:=by omega
  have er:start bits (right s) = (2 * s.place + 1) * 2 ^ n:=by
   show(2 * s.place + 1) * 2 ^ (bits - (s.level + 1)) = _;rw [e1]
  have es:start bits s = 2 * s.place * 2 ^ n:=by
   rw [<- left_start hl];show 2 * s.place * 2 ^ (bits - (s.level + 1)) = _;rw [e1]
  have et:stop bits s = (2 * s.place + 2) * 2 ^ n:=by
   rw [<- right_stop hl];show(2 * s.place + 1 + 1) * 2 ^ (bits - (s.level + 1)) = _;rw [e1]
  have hpos:=Nat.two_pow_pos n;unfold leaf path
  by_cases hp:pl < start bits (right s)
  ·have hq:pl / 2 ^ n = 2 * s.place:=by
    apply Nat.div_eq_of_lt_le
    ·rw [<- es]; exact h1
    ·rw [er] at hp; exact hp
   rw [if_pos hp,hq,if_neg (by omega),leaf_path bits pl n _ (show s.level + 1 + n = bits by omega) (by rw [left_start hl]; exact h1) (by rw [left_stop]; exact hp)]
   rfl
  ·have hq:pl / 2 ^ n = 2 * s.place + 1:=by
    apply Nat.div_eq_of_lt_le
    ·rw [<- er]; omega
    ·rw [<- et]; exact h2
   rw [if_neg hp,hq,if_pos (by omega),leaf_path bits pl n _ (show s.level + 1 + n = bits by omega) (by omega) (by rw [right_stop hl]; exact h2)]
   rfl
theorem path_length (pl:Nat):∀ (n:Nat) (s:List UInt8),s.length = 32->(path pl n s).length = 32
 | 0,_,h=>h
 | n + 1,s,_=>by
  unfold path;exact path_length pl n _ (by split <;> exact sum_length _)
end Pp
end Go.Proofs.Ytanfnafiofkihaa
namespace Go.Proofs.Ytanfnafiofkihaa
namespace Pp
def Whole (bits:Nat)(T:List Nat)(s:Sd):Prop:=∀ t∈T,¬ Has bits s t
instance (bits:Nat) (T:List Nat) (s:Sd):Decidable (Whole bits T s):=by unfold Whole Has; infer_instance
def low (bits:Nat)(T:List Nat):Nat->Sd->List Sd
 | 0,s=>if Whole bits T s then [s] else []
 | n + 1,s=>if Whole bits T s then [s] else low bits T n (left s) ++ low bits T n (right s)
theorem has_of_left {bits:Nat}{s:Sd}{p:Nat}(hl:s.level < bits)(h:Has bits (left s) p):Has bits s p:=⟨by rw [<- left_start hl]; exact h.1,Nat.lt_of_lt_of_le h.2 (left_stop_le hl)⟩
theorem has_of_right {bits:Nat}{s:Sd}{p:Nat}(hl:s.level < bits)(h:Has bits (right s) p):Has bits s p:=⟨Nat.le_trans (right_start_le hl) h.1,by rw [<- right_stop hl]; exact h.2⟩
theorem low_whole {bits:Nat}{T:List Nat}{s:Sd}(h:Whole bits T s):∀ n,low bits T n s = [s]
 | 0=>if_pos h
 | _ + 1=>if_pos h
theorem low_other (bits:Nat)(T:List Nat)(p:Nat):∀ (n:Nat) (s:Sd),s.level + n = bits->¬ Has bits s p->low bits (T ++ [p]) n s = low bits T n s
 | n,s,hn,hp=>by
  have hw:Whole bits (T ++ [p]) s↔Whole bits T s:=⟨λh t ht=>h t (by simp [ht]),λh t ht=>by
   rcases List.mem_append.1 ht with h1 | h1
   ·exact h t h1
   ·rw [List.mem_singleton.1 h1]; exact hp⟩
  cases n with
  | zero=>
   unfold low
   by_cases h:Whole bits T s
   ·rw [if_pos h,if_pos (hw.2 h)]
   ·rw [if_neg h,if_neg (λh2=>h (hw.1 h2))]
  | succ n=>
   have hl:s.level < bits:=by omega
   unfold low
   by_cases h:Whole bits T s
   ·rw [if_pos h,if_pos (hw.2 h)]
   ·rw [if_neg h,if_neg (λh2=>h (hw.1 h2)),low_other bits T p n (left s) (show s.level + 1 + n = bits by omega) (λh2=>hp (has_of_left hl h2)),low_other bits T p n (right s) (show s.level + 1 + n = bits by omega) (λh2=>hp (has_of_right hl h2))]
theorem low_fresh (bits:Nat)(T:List Nat)(p:Nat):∀ (n:Nat) (s:Sd),s.level + n = bits->Has bits s p->Whole bits T s->low bits (T ++ [p]) n s = beside bits p n s
 | n,s,hn,hp,hT=>by
  have hw:¬ Whole bits (T ++ [p]) s:=λh=>h p (by simp) hp
  cases n with
  | zero=>unfold low beside; rw [if_neg hw]
  | succ n=>
   have hl:s.level < bits:=by omega
   have hTl:Whole bits T (left s):=λt ht h=>hT t ht (has_of_left hl h)
   have hTr:Whole bits T (right s):=λt ht h=>hT t ht (has_of_right hl h)
   unfold low beside;rw [if_neg hw]
   by_cases h:p < start bits (right s)
   ·have hr:¬ Has bits (right s) p:=λh2=>Nat.not_le_of_lt h h2.1
    rw [if_pos h,low_fresh bits T p n (left s) (show s.level + 1 + n = bits by omega) (has_left hl hp h) hTl,low_other bits T p n (right s) (show s.level + 1 + n = bits by omega) hr,low_whole hTr]
   ·have hr:¬ Has bits (left s) p:=λh2=>h (by rw [<- left_stop]; exact h2.2)
    rw [if_neg h,low_fresh bits T p n (right s) (show s.level + 1 + n = bits by omega) (has_right hl hp h) hTr,low_other bits T p n (left s) (show s.level + 1 + n = bits by omega) hr,low_whole hTl]
    rfl
theorem low_took (bits:Nat)(T:List Nat)(p:Nat)(hT:p∉T):∀ (n:Nat) (s:Sd),s.level + n = bits->Has bits s p->∃ A x B,low bits T n s = A ++ x :: B/\Has bits x p/\low bits (T ++ [p]) n s = A ++ beside bits p (bits - x.level) x ++ B
 | n,s,hn,hp=>by
  by_cases hw:Whole bits T s
  ·refine⟨[],s,[],by rw [low_whole hw]; rfl,hp,?_⟩
   rw [low_fresh bits T p n s hn hp hw,show bits - s.level = n by omega]
   simp
  ·have hw2:¬ Whole bits (T ++ [p]) s:=λh=>hw (λt ht=>h t (by simp [ht]))
   cases n with
   | zero=>
    exfalso
    apply hw;intro t ht h;apply hT;have e:bits - s.level = 0:=by omega
    simp only [Has,start,stop,e,Nat.pow_zero,Nat.mul_one] at h hp
    rwa [show p = t by omega]
   | succ n=>
    have hl:s.level < bits:=by omega
    unfold low;rw [if_neg hw,if_neg hw2]
    by_cases h:p < start bits (right s)
    ·have hr:¬ Has bits (right s) p:=λh2=>Nat.not_le_of_lt h h2.1
     obtain⟨A,x,B,h1,h2,h3⟩:=low_took bits T p hT n (left s) (show s.level + 1 + n = bits by omega) (has_left hl hp h)
     refine⟨A,x,B ++ low bits T n (right s),by rw [h1]; simp,h2,?_⟩
     rw [h3,low_other bits T p n (right s) (show s.level + 1 + n = bits by omega) hr]
     simp
    ·have hr:¬ Has bits (left s) p:=λh2=>h (by rw [<- left_stop]; exact h2.2)
     obtain⟨A,x,B,h1,h2,h3⟩:=low_took bits T p hT n (right s) (show s.level + 1 + n = bits by omega) (has_right hl hp h)
     refine⟨low bits T n (left s) ++ A,x,B,by rw [h1]; simp,h2,?_⟩
     rw [h3,low_other bits T p n (left s) (show s.level + 1 + n = bits by omega) hr]
     simp
theorem low_none (bits:Nat)(T:List Nat)(p:Nat)(hT:p∈T):∀ (n:Nat) (s:Sd),∀ x∈low bits T n s,¬ Has bits x p
 | n,s,x,hx=>by
  by_cases hw:Whole bits T s
  ·rw [low_whole hw,List.mem_singleton] at hx
   rw [hx];exact hw p hT
  ·cases n with
   | zero=>unfold low at hx; rw [if_neg hw] at hx; cases hx
   | succ n=>
    unfold low at hx;rw [if_neg hw] at hx
    rcases List.mem_append.1 hx with h | h
    ·exact low_none bits T p hT n _ x h
    ·exact low_none bits T p hT n _ x h
theorem part_one {bits p:Nat}:∀ {A A' B B':List Sd} {s s':Sd},Good bits (A ++ s :: B)->A ++ s :: B = A' ++ s' :: B'->Has bits s p->Has bits s' p->A = A'/\s = s'/\B = B':=by
 intro A A' B B' s s' hG e hs hs'
 rcases List.append_eq_append_iff.1 e with ⟨C,h1,h2⟩ | ⟨C,h1,h2⟩
 ·cases C with
  | nil=>
   simp only [List.nil_append,List.cons.injEq] at h2;exact⟨by simpa using h1.symm,h2.1,h2.2⟩
  | cons c C=>
   simp only [List.cons_append,List.cons.injEq] at h2;have:=(good_one hG hs).2 s' (by rw [h2.2]; simp)
   exact absurd hs' this
 ·cases C with
  | nil=>
   simp only [List.nil_append,List.cons.injEq] at h2;exact⟨by simpa using h1,h2.1.symm,h2.2.symm⟩
  | cons c C=>
   simp only [List.cons_append,List.cons.injEq] at h2;have:=(good_one hG hs).1 s' (by rw [h1,<- h2.1]; simp)
   exact absurd hs' this
theorem Took.low {bits:Nat}{T:List Nat}{s:Sd}{p:Nat}{L':List Sd}{k:List UInt8}{er:Int}(h:Took bits (low bits T bits s) (p:Int) L' k er)(hs:s.level = 0)(hG:Good bits (Pp.low bits T bits s))(hp:Has bits s p)(hb:p < 2 ^ bits)(hT:p∉T):er = 0/\L' = Pp.low bits (T ++ [p]) bits s:=by
 obtain⟨A,x,B,h1,h2,h3⟩:=low_took bits T p hT bits s (by omega) hp
 rw [h3];generalize hL:Pp.low bits T bits s = L at h hG h1
 cases h with
 | out h=>omega
 | gone q e _ h4=>
  obtain rfl:p = q:=by omega
  exact absurd h2 (h4 x (by rw [h1]; simp))
 | took A' B' s' q e _ h4 h5=>
  obtain rfl:p = q:=by omega
  obtain⟨rfl,rfl,rfl⟩:=part_one (by rw [<- h1]; exact hG) (h1.symm.trans h4) h2 h5
  exact⟨rfl,rfl⟩
theorem low_good (bits:Nat)(T:List Nat):∀ (n:Nat) (s:Sd),In bits s->s.level + n = bits->Good bits (low bits T n s)/\∀ x∈low bits T n s,start bits s<=start bits x/\stop bits x<=stop bits s
 | n,s,hs,hn=>by
  by_cases hw:Whole bits T s
  ·rw [low_whole hw]
   refine⟨⟨λx hx=>by rw [List.mem_singleton.1 hx]; exact hs,List.pairwise_singleton _ _⟩,λx hx=>by rw [List.mem_singleton.1 hx]; exact⟨Nat.le_refl _,Nat.le_refl _⟩⟩
  ·cases n with
   | zero=>
    unfold low;rw [if_neg hw];exact⟨⟨(λ_ h=>nomatch h),List.Pairwise.nil⟩,(λ_ h=>nomatch h)⟩
   | succ n=>
    have hl:s.level < bits:=by omega
    obtain⟨⟨a1,a2⟩,a3⟩:=low_good bits T n (left s) (left_in hs hl) (show s.level + 1 + n = bits by omega)
    obtain⟨⟨b1,b2⟩,b3⟩:=low_good bits T n (right s) (right_in hs hl) (show s.level + 1 + n = bits by omega)
    unfold low;rw [if_neg hw];refine⟨⟨λx hx=>(List.mem_append.1 hx).elim (a1 x) (b1 x),List.pairwise_append.2 ⟨a2,b2,λa ha b hb=>?_⟩⟩,λx hx=>?_⟩
    ·exact Nat.le_trans (a3 a ha).2 (by rw [left_stop]; exact(b3 b hb).1)
    ·rcases List.mem_append.1 hx with h | h
     ·exact⟨by rw [<- left_start hl]; exact(a3 x h).1,Nat.le_trans (a3 x h).2 (left_stop_le hl)⟩
     ·exact⟨Nat.le_trans (right_start_le hl) (b3 x h).1,by rw [<- right_stop hl]; exact(b3 x h).2⟩
def cnt (bits:Nat):List Nat->Sd->Nat
 | [],_=>0
 | t :: T,s=>(if start bits s<=t/\t < stop bits s then 1 else 0) + cnt bits T s
theorem cnt_sides (bits:Nat)(s:Sd)(hl:s.level < bits):∀ T,cnt bits T (left s) + cnt bits T (right s)<=cnt bits T s
 | []=>Nat.le_refl _
 | t :: T=>by
  have ih:=cnt_sides bits s hl T;have h1:=left_start hl;have h2:=@left_stop bits s;have h3:=right_stop hl;have h4:=start_lt bits (left s);have h5:=start_lt bits (right s);unfold cnt
  split <;> split <;> split <;> omega
theorem cnt_pos (bits:Nat)(s:Sd):∀ T,¬ Whole bits T s->1<=cnt bits T s
 | [],h=>absurd (λ_ h=>nomatch h) h
 | t :: T,h=>by
  unfold cnt
  by_cases ht:start bits s<=t/\t < stop bits s
  ·rw [if_pos ht]; omega
  ·have:=cnt_pos bits s T (λhw=>h (λu hu=>by
    rcases List.mem_cons.1 hu with h1 | h1
    ·rw [h1]; exact ht
    ·exact hw u h1))
   omega
theorem cnt_le (bits:Nat)(s:Sd):∀ T,cnt bits T s<=T.length
 | []=>Nat.le_refl _
 | t :: T=>by
  have:=cnt_le bits s T;unfold cnt;rw [List.length_cons]
  split <;> omega
theorem low_cnt (bits:Nat)(T:List Nat):∀ (n:Nat) (s:Sd),s.level + n = bits->(low bits T n s).length<=1 + cnt bits T s * n
 | n,s,hn=>by
  by_cases hw:Whole bits T s
  ·rw [low_whole hw]; simp
  ·have hc:=cnt_pos bits s T hw
   cases n with
   | zero=>unfold low; rw [if_neg hw]; simp
   | succ n=>
    have hl:s.level < bits:=by omega
    have h1:=low_cnt bits T n (left s) (show s.level + 1 + n = bits by omega)
    have h2:=low_cnt bits T n (right s) (show s.level + 1 + n = bits by omega)
    have h3:=Nat.mul_le_mul_right n (cnt_sides bits s hl T);rw [Nat.add_mul] at h3;unfold low;rw [if_neg hw,List.length_append,Nat.mul_succ]
    omega
theorem low_length (bits:Nat)(T:List Nat)(n:Nat)(s:Sd)(hn:s.level + n = bits):(low bits T n s).length<=1 + T.length * n:=
 Nat.le_trans (low_cnt bits T n s hn) (Nat.add_le_add_left (Nat.mul_le_mul_right n (cnt_le bits s T)) 1)
theorem path_snoc (b:Bool):∀ (n p:Nat) (l:List UInt8),path (2 * p + b.toNat) (n + 1) l = Sm.sum ((if b then wRight else wLeft) ++ path p n l)
 | 0,p,l=>by
  cases b <;> simp [path] <;> omega
 | n + 1,p,l=>by
  have e:(2 * p + b.toNat) / 2 ^ (n + 1) = p / 2 ^ n:=by
   rw [Nat.pow_succ',<- Nat.div_div_eq_div_mul]
   congr 1
   cases b <;> simp <;> omega
  rw [path,e,path_snoc b n p]
  rfl
def Of (l:List UInt8)(s:Sd):Prop:=s.self = path s.place s.level l
theorem Of.left {l:List UInt8}{s:Sd}(h:Of l s):Of l (left s):=by
 show Sm.sum (wLeft ++ s.self) = path (2 * s.place) (s.level + 1) l;rw [h];exact(path_snoc false s.level s.place l).symm
theorem Of.right {l:List UInt8}{s:Sd}(h:Of l s):Of l (right s):=by
 show Sm.sum (wRight ++ s.self) = path (2 * s.place + 1) (s.level + 1) l;rw [h];exact(path_snoc true s.level s.place l).symm
theorem has_div {bits:Nat}{s:Sd}{t:Nat}:Has bits s t↔t / 2 ^ (bits - s.level) = s.place:=by
 have h2:=Nat.two_pow_pos (bits - s.level);unfold Has start stop;generalize 2 ^ (bits - s.level) = q at h2 |-;rw [Nat.div_eq_iff h2]
 constructor
 ·rintro ⟨h,h3⟩
  rw [Nat.add_mul] at h3
  omega
 ·rintro ⟨h,h3⟩
  refine⟨by omega,?_⟩;rw [Nat.add_mul]
  omega
end Pp
end Go.Proofs.Ytanfnafiofkihaa
namespace Go.Proofs.Ytanfnafiofkihaa
open Go.RowKit Go.Lib
open List renaming setIfInBounds_toArray -> sA, set_cons_zero -> sB, set_cons_succ -> sC
open BigFrame renaming wpList_want -> wQ
theorem alloc_hash32 (w:World):(Instr.alloc 25 true (.tuple #[])).run Try.prog w = .ok (.pointer (some ⟨w.heap.size,0,none⟩)) (w.alloc (.cells zeros32 25)):=by
 rw [<- zeros32_eq];kernel_rfl
theorem refRow_root {w:World}{b:Nat}{t:TypeId}{l:List UInt8}{bits:Nat}{T:Value}(h:w.heap[b]? = some (.cells (refRow l bits T) t (0,0))):w.rangeAt b 0 (bcells l):=λj v hj=>by
 rw [Nat.zero_add,cell_of_row w b j _ _ _ h,refRow,List.getElem?_toArray,List.getElem?_append_left (List.getElem?_eq_some_iff.1 hj).1];exact hj
theorem h32Info {cs:Array Value}(h:cs.size = 32):(Try.prog.info? 25).map (·.size) = some cs.size:=by rw [h]; kernel_rfl
theorem at_calls (l:List UInt8)(hl:l.length = 32)(bits:Nat)(T:Value)(n:Nat)(hn:n<=32)(p:Nat)(hp:p < 2 ^ 32)(w:World):Calls Try.prog 56 #[.agg (refRow l bits T),.int .i64 (n:Int),.int .i64 (p:Int)] w λe w'=>e = .returned (.agg (bcells (Pp.path p n l)).toArray)/\Kept w.heap.size w.heap.size w w':=by
 have hroot:=λ(w2:World) (b:Nat) h=>refRow_root (w:=w2) (b:=b) (t:=60) (l:=l) (bits:=bits) (T:=T) h
 generalize refRow l bits T = RD at hroot |-;obtain⟨RES,hRES⟩:∃ RES,RES = Pp.path p n l:=⟨_,rfl⟩;rw [<- hRES];have HRL:=hid (show RES.length = 32 by rw [hRES]; exact Pp.path_length p n l hl)
 have HRES:=hid hRES.symm;have HL:=hid hl;have HN:=hid hn;have hn32:(n:Int)<=32:=by omega
 have hp4:(p:Int) < 4294967296:=by omega
 have hk2:Kept w.heap.size w.heap.size w ((w.alloc (.cells RD 60)).alloc (.cells zeros32 25)):=((Kept.refl _ _ _).alloc (Nat.le_refl _) _).alloc (by simp) _
 have hr2:((w.alloc (.cells RD 60)).alloc (.cells zeros32 25)).heap[w.heap.size]? = some (.cells RD 60 (0,0)):=heap_alloc2_old w _ _
 have hz2:((w.alloc (.cells RD 60)).alloc (.cells zeros32 25)).heap[w.heap.size + 1]? = some (.cells zeros32 25 (0,0)):=heap_alloc2_last w _ _
 have hx2:=hroot _ _ hr2;have K2:=hid hk2;have Z2:=hid hz2;have X2:=hid hx2;clear hRES hl hn hp hroot hk2 hr2 hz2 hx2
 go_enter Try.func56,Try.ntmps56
 go_upto_region 1 with fail
 rw [zeros32_eq];generalize (w.alloc (.cells RD 60)).alloc (.cells zeros32 25) = w2 at K2 Z2 X2 |-
 obtain⟨wa,hwa⟩:∃ wa,wa = w.heap.size:=⟨_,rfl⟩;rw [<- hwa] at Z2 X2 |-;have HWA:=hid hwa;clear hwa;obtain⟨LD,hLD⟩:∃ LD,LD = (bcells l).toArray:=⟨_,rfl⟩;have HLS:=hid (show LD.size = 32 by rw [hLD,List.size_toArray,bcells_length]; exact HL.out)
 have HLA:=hid (show LD.all (·.oneCell') = true by rw [hLD]; exact bcells_all _)
 have HLI:=hid (h32Info HLS.out);have HLD:=hid hLD;clear hLD;refine wp_region_lit ?_;refine wW λK hK=>?_;go_simp;apply hK;clear hK K;refine wpList_load_mid rfl 25 (.tmp 9) rfl wa 0 rfl (bcells l) _ X2.out Try.underlying25 rfl (by have:=HLI.out; rw [HLD.out] at this; simpa using this) ?_
 simp only [Act.put,sA,sB,sC];rw [<- HLD.out];refine wpList_alloc_k rfl 25 rfl (alloc_hash32 _) ?_
 simp only [Act.put,sA,sB,sC];refine wpList_store_row rfl 25 _ _ rfl (w2.heap.size) LD rfl rfl 25 zeros32 (heap_new _ _) (HLI.out) (by rw [zeros32_size,HLS.out]) (HLA.out) ?_
 simp only [Act.put];rw [World.setRow_alloc_new];have hb3:=heap_new w2 (.cells LD 25)
 have K3:=hid (K2.out.alloc K2.out.size (.cells LD 25))
 have Z3:Hid ((w2.alloc (.cells LD 25)).heap[wa + 1]? = some (.cells zeros32 25 (0,0))):=hid ((Below.heap_alloc _ _ _ (lt_of_block Z2.out)).trans Z2.out)
 have HZB:=hid (show wa + 1 < w2.heap.size from lt_of_block Z2.out);generalize w2.alloc (.cells LD 25) = w3 at hb3 K3 Z3 |-
 obtain⟨sb,hsb⟩:∃ sb,sb = w2.heap.size:=⟨_,rfl⟩;rw [<- hsb] at hb3 HZB |-;have B3:=hid hb3;clear hb3 hsb X2
 go_wp2_with fail
 go_loopw [8] (λs8 wr=>∃ (i:Nat) (s:List UInt8),s8 = .int .i64 ((i:Int) - 1)/\Hid (i<=n)/\Hid (s.length = 32)/\Hid (Pp.path p i s = RES)/\Hid (wr.heap[sb]? = some (.cells (bcells s).toArray 25 (0,0)))/\Hid (wr.heap[wa + 1]? = some (.cells zeros32 25 (0,0)))/\Hid (Kept w.heap.size w.heap.size w wr)) (λs8 _=>(RowKit.intOf s8 + 1).toNat)
 case atStart=>exact⟨n,l,rfl,hid (Nat.le_refl _),HL,HRES,hid (by rw [<- HLD.out]; exact B3.out),Z3,K3⟩
 case round=>
  clear B3 Z3 K3 K2 Z2;obtain⟨i,s,rfl,hi,HS,HPA,HBL,HZ,HK⟩:=hrel;obtain⟨SD,hSD⟩:∃ SD,SD = (bcells s).toArray:=⟨_,rfl⟩;rw [<- hSD] at HBL;have HSS:=hid (show SD.size = 32 by rw [hSD,List.size_toArray,bcells_length]; exact HS.out)
  have HSA:=hid (show SD.all (·.oneCell') = true by rw [hSD]; exact bcells_all _)
  have HSI:=hid (h32Info HSS.out);have HSD:=hid hSD;clear hSD
  cases i with
  | zero=>
   have hneg:¬ ((0:Nat):Int) - 1>=0:=by omega
   go_upto_region 6 with fail
   refine wp_region_lit ?_;refine wpList_load_row rfl 25 (.tmp 7) rfl (sb) rfl 25 SD (0,0) _ (HBL.out) Try.underlying25 rfl (HSI.out) ?_
   simp only [Act.put,sA,sB,sC];refine wpList_store_row rfl 25 _ _ rfl (wa + 1) SD rfl rfl 25 zeros32 (HZ.out) (HSI.out) (by rw [zeros32_size,HSS.out]) (HSA.out) ?_
   simp only [Act.put];have k6:Kept w.heap.size w.heap.size w (wr.setRow (wa + 1) SD):=HK.out.trans ⟨rfl,rfl,rfl,by simp [World.setRow],λk hk _=>setRow_other wr (wa + 1) k SD (by have:=HWA.out; omega)⟩
   have r6:=setRow_heap wr (wa + 1) zeros32 SD _ _ HZ.out;generalize wr.setRow (wa + 1) SD = w6 at k6 r6 |-;go_wp2;refine bodyPost_ret (results_cell_row rfl _ _ (wa + 1) 25 SD (0,0) _ rfl r6 Try.underlying25 rfl HSI.out) rfl ?_
   exact⟨by rw [HSD.out,<- HPA.out]; rfl,k6⟩
  | succ i=>
   have hpos:((i + 1:Nat):Int) - 1>=0:=by omega
   have hi32:(i:Int)<=32:=by have:=hi.out; have:=HN.out; omega
   obtain⟨N2,hN2⟩:∃ N2:Int,N2 = ((2 ^ i:Nat):Int):=⟨_,rfl⟩;have hpow:=λw=>power_calls i (by have:=hi.out; have:=HN.out; omega) w
   rw [<- hN2] at hpow;have HP:=hid hpow;have hN20:¬ N2 = 0:=by rw [hN2]; have:=Nat.two_pow_pos i; generalize 2 ^ i = q at this |-; omega
   have hN21:0<=N2:=by rw [hN2]; exact Int.natCast_nonneg _
   obtain⟨Q,hQ⟩:∃ Q:Int,Q = ((p / 2 ^ i:Nat):Int):=⟨_,rfl⟩
   have HQ:=hid (show IntKind.i64.wrap ((p:Int) / N2) = Q by
    rw [hN2,hQ,show(p:Int) / ((2 ^ i:Nat):Int) = ((p / 2 ^ i:Nat):Int) from rfl,IntKind.wrap_i64];have:=Nat.div_le_self p (2 ^ i);generalize p / 2 ^ i = q at this |-
    omega)
   have hQ0:0<=Q:=by rw [hQ]; exact Int.natCast_nonneg _
   clear hpow;obtain⟨r,hr⟩:∃ r:Bool,r = decide (p / 2 ^ i % 2 = 1):=⟨_,rfl⟩;obtain⟨t,ht⟩:∃ t,t = (if p / 2 ^ i % 2 = 1 then Sm.sum (Pp.wRight ++ s) else Sm.sum (Pp.wLeft ++ s)):=⟨_,rfl⟩
   have hdown:∀ w,Calls Try.prog 58 #[.agg SD,.bool r] w λe w'=>e = .returned (.agg (bcells t).toArray)/\Kept w.heap.size w.heap.size w w':=λw=>by
    rw [HSD.out,hr,ht]
    by_cases h:p / 2 ^ i % 2 = 1
    ·rw [if_pos h,decide_eq_true h]
     exact refdown_right s HS.out w
    ·rw [if_neg h,decide_eq_false h]
     exact refdown_left s HS.out w
   have HT32:=hid (show t.length = 32 by rw [ht]; split <;> exact sum_length _)
   have HPT:=hid (show Pp.path p i t = RES by rw [<- HPA.out,Pp.path,<- ht])
   obtain⟨TD,hTD⟩:∃ TD,TD = (bcells t).toArray:=⟨_,rfl⟩;have HTS:=hid (show TD.size = 32 by rw [hTD,List.size_toArray,bcells_length]; exact HT32.out)
   have HTA:=hid (show TD.all (·.oneCell') = true by rw [hTD]; exact bcells_all _)
   have HTI:=hid (h32Info HTS.out);rw [<- hTD] at hdown;have HTD:=hid hTD;have HDOWN:=hid hdown
   have hrq:((Q.tmod 2) == 1) = r:=by
    rw [hQ,hr,show((p / 2 ^ i:Nat):Int).tmod 2 = ((p / 2 ^ i % 2:Nat):Int) from rfl,Bool.eq_iff_iff,beq_iff_eq,decide_eq_true_iff];generalize p / 2 ^ i = q
    omega
   have HRQ:=hid hrq;clear hr ht hdown hTD hrq hN2 hQ
   go_upto_region 5 with fail
   refine wp_region_still_tail 7 (by kernel_rfl) (by kernel_rfl) ?_
   simp only [List.take_succ_cons,List.take_zero,List.drop_succ_cons,List.drop_zero];generalize hw9:({ heap:=wr.heap,tape:=wr.tape,drawn:=wr.drawn + 1,os:=wr.os,output:=wr.output }:World) = wd
   have HBd:Hid (wd.heap[sb]? = some (.cells SD 25 (0,0))):=hid (by rw [<- hw9]; exact HBL.out)
   have HZd:Hid (wd.heap[wa + 1]? = some (.cells zeros32 25 (0,0))):=hid (by rw [<- hw9]; exact HZ.out)
   have HKd:Hid (Kept w.heap.size w.heap.size w wd):=hid (by rw [<- hw9]; exact HK.out.drew)
   clear hw9 HBL HZ HK;refine @wpStill_load_known _ _ _ _ _ _ _ ?_ 25 (.tmp 7) rfl (sb) 0 rfl (.agg SD) (run_loadVar_row wd sb 25 25 SD (0,0) _ HBd.out Try.underlying25 rfl HSI.out) ?_;kernel_rfl
   simp only [Act.put,sA,sB,sC];refine @wpStill_want _ _ _ _ _ _ _ ?_ ?_;kernel_rfl;intro K hK;go_simp;refine hK _ ?_;clear hK K;refine @wpStill_want _ _ _ _ _ _ _ ?_ ?_;kernel_rfl;intro K hK;go_simp;refine hK _ ?_;clear hK K;refine @wpStill_want _ _ _ _ _ _ _ ?_ ?_;kernel_rfl;intro K hK;go_simp;refine⟨_,(HP.out wd).mono (λe w2 h=>h),?_⟩
   refine hK _ ?_;clear hK K;refine @wpStill_want _ _ _ _ _ _ _ ?_ ?_;kernel_rfl;intro K hK;go_simp;rw [HQ.out];refine hK _ ?_;clear hK K;refine @wpStill_want _ _ _ _ _ _ _ ?_ ?_;kernel_rfl;intro K hK;go_simp;refine hK _ ?_;clear hK K;refine @wpStill_want _ _ _ _ _ _ _ ?_ ?_;kernel_rfl;intro K hK;go_simp;rw [HRQ.out];refine hK _ ?_;clear hK K;refine wpStill_nil ?_;refine wW λK hK=>?_;go_simp;go_at_call 58
   refine(HDOWN.out _).mono ?_;rintro e w6 ⟨rfl,k6⟩;apply hK;clear hK K;have HB6:=hid (rk HBd.out k6);have HZ6:=hid (rk HZd.out k6);have HK6:=hid (HKd.out.next1 k6);clear k6;refine wpList_store_row rfl 25 _ _ rfl (sb) TD rfl rfl 25 SD (HB6.out) (HTI.out) (by rw [HSS.out,HTS.out]) (HTA.out) ?_
   simp only [Act.put];have hb7:=setRow_heap w6 sb SD TD _ _ HB6.out;have hz7:=(setRow_other w6 sb (wa + 1) TD (by have:=HZB.out; omega)).trans HZ6.out
   have hk7:Kept w.heap.size w.heap.size w (w6.setRow sb TD):=HK6.out.trans ⟨rfl,rfl,rfl,by simp [World.setRow],λk hk _=>setRow_other w6 sb k TD (by have:=HZB.out; have:=HWA.out; omega)⟩
   generalize w6.setRow sb TD = w7 at hb7 hz7 hk7 |-;have HB7:=hid hb7;have HZ7:=hid hz7;have HK7:=hid hk7;clear hb7 hz7 hk7
   go_wp2_with fail
   go_roundw
   case rel=>exact⟨i,t,by simp,hid (by have:=hi.out; omega),HT32,HPT,hid (by rw [<- HTD.out]; exact HB7.out),HZ7,HK7⟩
   case measure=>simp [RowKit.intOf]
theorem refkey_calls (l:List UInt8)(hl:l.length = 32)(bits:Nat)(hb:bits<=32)(T:Value)(p:Nat)(hp:p < 2 ^ 32)(w:World):Calls Try.prog 57 #[.agg (refRow l bits T),.int .i64 (p:Int)] w λe w'=>e = .returned (.agg (bcells (Pp.key (Pp.path p bits l))).toArray)/\Kept w.heap.size w.heap.size w w':=by
 have hat:=λw=>at_calls l hl bits T bits hb p hp w
 have hcell:=λ(w2:World) (b:Nat) h=>refRow_bits (w:=w2) (b:=b) (t:=60) hl (bits:=bits) (T:=T) h
 have hrs:=refRow_size hl bits T;have hk:=Pp.path_length p bits l hl;generalize Pp.path p bits l = k at hat hk |-;generalize refRow l bits T = RD at hat hcell hrs |-;have hsum:=λw=>refsum_calls (⟨#[107,101,121]⟩ ++ str k) w (by have h:(str k).size = 32:=(str_size k).trans hk; simp [ByteArray.size_append,h]; decide)
 rw [show Sm.sum ((⟨#[107,101,121]⟩ ++ str k:ByteArray)).data.toList = Pp.key k by congr 1] at hsum
 have hml:(Pp.key k).length = 32:=sum_length _;generalize Pp.key k = m at hsum hml |-;obtain⟨MD,hMD⟩:∃ MD,MD = (bcells m).toArray:=⟨_,rfl⟩;have HMS:=hid (show MD.size = 32 by rw [hMD,List.size_toArray,bcells_length]; exact hml)
 have HMA:=hid (show MD.all (·.oneCell') = true by rw [hMD]; exact bcells_all _)
 have HMI:=hid (h32Info HMS.out);simp only [<- hMD] at hsum;rw [<- hMD];obtain⟨sk,hsk⟩:∃ sk,sk = str k:=⟨_,rfl⟩;have HSKS:=hid (show sk.size = 32 by rw [hsk,str_size,hk])
 obtain⟨kc,hkc⟩:∃ kc,kc = (bcells k).toArray:=⟨_,rfl⟩;have HCS:=hid (show kc.size = 32 by rw [hkc,List.size_toArray,bcells_length]; exact hk)
 have HCA:=hid (show kc.all (·.oneCell') = true by rw [hkc]; exact bcells_all _)
 have HCI:=hid (h32Info HCS.out);simp only [<- hkc] at hat;simp only [<- hsk] at hsum;have HSUM:=hid hsum;have HAT:=hid hat;have Hsk:=hid hsk;have Hkc:=hid hkc;have HK32:=hid hk;have HRI:=hid (show(Try.prog.info? 60).map (·.size) = some RD.size by rw [hrs]; kernel_rfl)
 have hsk32:=HSKS.out;have hk2:Kept w.heap.size w.heap.size w ((w.alloc (.cells RD 60)).alloc (.cells zeros32 25)):=((Kept.refl _ _ _).alloc (Nat.le_refl _) _).alloc (by simp) _
 have hr2:((w.alloc (.cells RD 60)).alloc (.cells zeros32 25)).heap[w.heap.size]? = some (.cells RD 60 (0,0)):=heap_alloc2_old w _ _
 have hz2:((w.alloc (.cells RD 60)).alloc (.cells zeros32 25)).heap[w.heap.size + 1]? = some (.cells zeros32 25 (0,0)):=heap_alloc2_last w _ _
 have hc2:=hcell _ _ hr2;have K2:=hid hk2;have Z2:=hid hz2;have R2:=hid hr2;clear hsum hat hml hMD hsk hkc hk hl hp hb hrs hcell hk2 hr2 hz2
 go_enter Try.func57,Try.ntmps57
 go_upto_region 1 with fail
 rw [zeros32_eq];generalize (w.alloc (.cells RD 60)).alloc (.cells zeros32 25) = w2 at K2 Z2 R2 hc2 |-
 obtain⟨wa,hwa⟩:∃ wa,wa = w.heap.size:=⟨_,rfl⟩;rw [<- hwa] at Z2 R2 hc2 |-;have HWA:=hid hwa;clear hwa;refine wp_region_lit ?_;refine wpList_load_row rfl 60 (.tmp 2) rfl (wa) rfl 60 RD (0,0) _ (R2.out) Try.underlying60 rfl (HRI.out) ?_
 simp only [Act.put,sA,sB,sC];iterate 3 (refine wW λK hK=>?_;go_simp;apply hK;clear hK K)
 refine wW λK hK=>?_;go_simp;go_at_call 56
 refine(HAT.out _).mono ?_;rintro e w3 ⟨rfl,k3⟩;apply hK;clear hK K;have K3:=hid (K2.out.next1 k3);have Z3:=hid (rk Z2.out k3);clear k3 hc2;refine wpList_alloc_k rfl 25 rfl (alloc_hash32 _) ?_
 simp only [Act.put,sA,sB,sC];refine wpList_store_row rfl 25 _ _ rfl (w3.heap.size) kc rfl rfl 25 zeros32 (heap_new _ _) (HCI.out) (by rw [zeros32_size,HCS.out]) (HCA.out) ?_
 simp only [Act.put];rw [World.setRow_alloc_new];have hb4:=heap_new w3 (.cells kc 25)
 have K4:=hid (K3.out.alloc K3.out.size (.cells kc 25))
 have Z4:=hid ((Below.heap_alloc w3 (.cells kc 25) _ (lt_of_block Z3.out)).trans Z3.out)
 generalize w3.alloc (.cells kc 25) = w4 at hb4 K4 Z4 |-
 obtain⟨sb,hsb⟩:∃ sb,sb = w3.heap.size:=⟨_,rfl⟩;rw [<- hsb] at hb4 |-
 have cA:(convert 45 9 (.slice (some ⟨sb,0,none⟩) 32 32)).run Try.prog w4 = .ok (.string sk) w4:=by
  rw [Hsk.out];exact conv_hash HK32.out (by rw [<- Hkc.out]; exact hb4)
 clear hb4 hsb
 go_upto_region 2 with fail
 refine wp_region_lit ?_;iterate 3 (refine wW λK hK=>?_;go_simp;apply hK;clear hK K)
 refine wW λK hK=>?_;go_simp;go_at_call 41
 refine(HSUM.out _).mono ?_;rintro e w5 ⟨rfl,k5⟩;apply hK;clear hK K;have Z5:=hid (rk Z4.out k5);have K5:=hid (K4.out.next1 k5);clear k5;refine wpList_store_row rfl 25 _ _ rfl (wa + 1) MD rfl rfl 25 zeros32 (Z5.out) (HMI.out) (by rw [zeros32_size,HMS.out]) (HMA.out) ?_
 simp only [Act.put];have k6:Kept w.heap.size w.heap.size w (w5.setRow (wa + 1) MD):=K5.out.trans ⟨rfl,rfl,rfl,by simp [World.setRow],λk hk _=>setRow_other w5 (wa + 1) k MD (by have:=HWA.out; omega)⟩
 have r6:=setRow_heap w5 (wa + 1) zeros32 MD _ _ Z5.out;generalize w5.setRow (wa + 1) MD = w6 at k6 r6 |-;go_wp2;refine bodyPost_ret (results_cell_row rfl _ _ (wa + 1) 25 MD (0,0) _ rfl r6 Try.underlying25 rfl HMI.out) rfl ?_
 exact⟨rfl,k6⟩
end Go.Proofs.Ytanfnafiofkihaa
