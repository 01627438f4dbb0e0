/-
  KeyCtx; KeyBuild; KeyApp: several texts in one.
-/
import Derived.Test.YtdfbmijbmlainaaDoorKA
import Derived.Test.YtdfbmijbmlainaaDoorGV
import Derived.Test.YtdfbmijbmlainaaDoorIC
import Derived.Test.YtdfbmijbmlainaaDoorGM

namespace Go.Proofs.YtdfbmijbmlainaaDoor
open Go.RowKit Go.Lib

namespace Ky
def ctxOf (p : List UInt8) (n : Int) (t s : List UInt8) : List UInt8 := if 0 ≤ n ∧ n ≤ 4611686018427387903 then ctx p n.toNat t s else []
def ctxSt (p : List UInt8) (n : Int) (t s : List UInt8) : Option (List UInt8) := pRaw (pRaw (pNum (pRaw (some []) p) n) t) s
theorem ctxSt_get (p : List UInt8) (n : Int) (t s : List UInt8) : (ctxSt p n t s).getD [] = ctxOf p n t s := by
  unfold ctxSt ctxOf pNum
  split
  · rfl
  · rfl
theorem short_raw {st : Option (List UInt8)} {n : Nat} (h : Short st n) (x : List UInt8) : Short (pRaw st x) (n + x.length) := fun l hl => by
  cases st with
  | none => cases hl
  | some m =>
    cases hl
    have := h m rfl
    rw [List.length_append]
    omega
theorem short_num {st : Option (List UInt8)} {n : Nat} (h : Short st n) (x : Int) : Short (pNum st x) (n + 8) := fun l hl => by
  unfold pNum at hl
  split at hl
  · cases st with
    | none => cases hl
    | some m =>
      cases hl
      have := h m rfl
      have := Wm.enc_length_le x.toNat
      rw [List.length_append]
      omega
  · cases hl
theorem short_more {st : Option (List UInt8)} {n m : Nat} (h : Short st n) (hm : n ≤ m) : Short st m := fun l hl => Nat.le_trans (h l hl) hm
end Ky
/-- A writer that may be spoilt. -/
structure Po (w0 : World) (base b : Nat) (st : Option (List UInt8)) (w : World) : Prop where
  wr : Wr w base b st
  tab : Tab w
  kp : Kept base b w0 w
  fr : Fr b w0 w
  pos : 0 < b
theorem Po.next {w0 w w1 : World} {base b : Nat} {st s1 : Option (List UInt8)} (h : Po w0 base b st w) (h1 : WrV w1 base b (.pointer (some ⟨b, 0, none⟩)) s1) (k : Kept base b w w1) (f : Fr b w w1) : Po w0 base b s1 w1 :=
  ⟨wr_of h1, h.tab.kept k (Nat.lt_of_lt_of_le h.pos (Nat.le_of_lt h.wr.lt)) h.pos, h.kp.trans k, h.fr.trans f, h.pos⟩
theorem Po.box {w0 w : World} {base b : Nat} {st : Option (List UInt8)} (h : Po w0 base b st w) {lb : Nat} {cs : Array Value} {t : TypeId} (hb : w0.heap[lb]? = some (.cells cs t (0, 0))) (hne : lb ≠ b) (ht : t ≠ 5) : w.heap[lb]? = some (.cells cs t (0, 0)) :=
  h.fr lb _ hb hne (fun _ _ e => by injection e with _ e2; exact ht e2)
theorem Po.num {w0 w : World} {base b : Nat} {st : Option (List UInt8)} (h : Po w0 base b st w) (n : Int) (hs : Short st 100000) : Calls Tryd.prog 31 #[.pointer (some ⟨b, 0, none⟩), .int .i64 n] w fun e w' => e = .returned (.tuple #[]) ∧ Po w0 base b (pNum st n) w' := by
  refine (wnum_f base b _ st n w (.inr ⟨rfl, h.wr⟩) h.tab (Ky.short_more hs (by decide))).mono ?_
  rintro e w' ⟨rfl, h1, k, f⟩
  exact ⟨rfl, h.next h1 k f⟩
theorem Po.hash {w0 w : World} {base b : Nat} {st : Option (List UInt8)} (h : Po w0 base b st w) (x : List UInt8) (hx : x.length = 32) (hs : Short st 100000) : Calls Tryd.prog 39 #[.pointer (some ⟨b, 0, none⟩), .agg (bcells x).toArray] w fun e w' => e = .returned (.tuple #[]) ∧ Po w0 base b (pRaw st x) w' := by
  refine (whash_f base b _ st x hx w (.inr ⟨rfl, h.wr⟩) (Ky.short_more hs (by decide))).mono ?_
  rintro e w' ⟨rfl, h1, k, f⟩
  exact ⟨rfl, h.next h1 k f⟩
theorem Po.ends {w0 w : World} {base b : Nat} {st : Option (List UInt8)} (h : Po w0 base b st w) : Calls Tryd.prog 32 #[.pointer (some ⟨b, 0, none⟩)] w fun e w' => ∃ E : Int, e = .returned (.tuple #[.string (str (st.getD [])), .int .i64 E]) ∧ w = w' := by
  cases st with
  | none => exact (wend_bad base b w h.wr).mono fun e w' ⟨h1, h2⟩ => ⟨1, h1, h2⟩
  | some l => exact (wend_ok base b l w h.wr).mono fun e w' ⟨h1, h2⟩ => ⟨0, h1, h2⟩
theorem Tab.onto11 {w x : World} (h : Tab w) (k : Kept w.heap.size w.heap.size w x) : Tab x := h.kept k h.lt h.lt

set_option maxRecDepth 100000 in
set_option maxHeartbeats 6400000 in
theorem context_calls11 (p t s : List UInt8) (hp : p.length = 32) (ht : t.length = 32) (hs : s.length = 32) (n : Int) (w : World) (tab : Tab w) : Calls Tryd.prog 20 #[.agg (bcells p).toArray, .int .i64 n, .agg (bcells t).toArray, .agg (bcells s).toArray] w fun e w' => e = .returned (.string (str (Ky.ctxOf p n t s))) ∧ Kept w.heap.size w.heap.size w w' := by
  have htab := Lib.hid tab
  have S1 : Short (some []) 0 := fun l hl => by cases hl; exact Nat.le_refl _
  have S2 : Short (pRaw (some []) p) 32 := Ky.short_more (Ky.short_raw S1 p) (by omega)
  have S3 : Short (pNum (pRaw (some []) p) n) 40 := Ky.short_num S2 n
  have S4 : Short (pRaw (pNum (pRaw (some []) p) n) t) 72 := Ky.short_more (Ky.short_raw S3 t) (by omega)
  have HH1 := Lib.hid (fun w0 base b (x : World) (u : Po w0 base b (some []) x) => u.hash p hp (Ky.short_more S1 (by decide)))
  have HN1 := Lib.hid (fun w0 base b (x : World) (u : Po w0 base b (pRaw (some []) p) x) => u.num n (Ky.short_more S2 (by decide)))
  have HH2 := Lib.hid (fun w0 base b (x : World) (u : Po w0 base b (pNum (pRaw (some []) p) n) x) => u.hash t ht (Ky.short_more S3 (by decide)))
  have HH3 := Lib.hid (fun w0 base b (x : World) (u : Po w0 base b (pRaw (pNum (pRaw (some []) p) n) t) x) => u.hash s hs (Ky.short_more S4 (by decide)))
  have HE1 := Lib.hid (fun w0 base b (x : World) (u : Po w0 base b (pRaw (pRaw (pNum (pRaw (some []) p) n) t) s) x) => u.ends)
  rw [show (pRaw (pRaw (pNum (pRaw (some []) p) n) t) s).getD [] = Ky.ctxOf p n t s from Ky.ctxSt_get p n t s] at HE1
  have HLP := Lib.hid (fun (u : World) (b : Nat) (h : u.heap[b]? = some (.cells (bcells p).toArray 23 (0, 0))) => load_hash11 hp h)
  have HLT := Lib.hid (fun (u : World) (b : Nat) (h : u.heap[b]? = some (.cells (bcells t).toArray 23 (0, 0))) => load_hash11 ht h)
  have HLS := Lib.hid (fun (u : World) (b : Nat) (h : u.heap[b]? = some (.cells (bcells s).toArray 23 (0, 0))) => load_hash11 hs h)
  generalize str (Ky.ctxOf p n t s) = tx at HE1 ⊢
  generalize pRaw (pRaw (pNum (pRaw (some []) p) n) t) s = st5 at HH3 HE1
  generalize pRaw (pNum (pRaw (some []) p) n) t = st4 at HH2 HH3
  generalize pNum (pRaw (some []) p) n = st3 at HN1 HH2
  generalize pRaw (some []) p = st2 at HH1 HN1
  generalize (bcells p).toArray = pc at HH1 HLP ⊢
  generalize (bcells t).toArray = tc at HH2 HLT ⊢
  generalize (bcells s).toArray = sc at HH3 HLS ⊢
  clear hp ht hs tab S1 S2 S3 S4
  go_enter Tryd.func20, Tryd.ntmps20
  go_upto_region 0 with fail
  refine wp_region_lit ?_
  refine @BigFrame.wpList_want _ _ _ _ _ _ _ ?hw93028 ?_
  case hw93028 => kernel_rfl
  intro K hK
  go_simp
  refine hK _ _ ?_
  clear hK K
  have kn : Kept w.heap.size w.heap.size w (w.alloc (.cells pc 23)) := (Kept.refl _ _ _).alloc (Nat.le_refl _) _
  have rpb := heap_new w (.cells pc 23)
  have Kw1 := kn
  generalize w.alloc (.cells pc 23) = w1 at kn rpb Kw1  ⊢
  obtain ⟨pb, hpb⟩ : ∃ n, n = w.heap.size := ⟨_, rfl⟩
  rw [← hpb] at rpb
  (try rw [← hpb])
  clear hpb kn
  refine @BigFrame.wpList_want _ _ _ _ _ _ _ ?hw93029 ?_
  case hw93029 => kernel_rfl
  intro K hK
  go_simp
  refine hK _ _ ?_
  clear hK K
  have kn : Kept w1.heap.size w1.heap.size w1 (w1.alloc (.cells tc 23)) := (Kept.refl _ _ _).alloc (Nat.le_refl _) _
  have rtb := heap_new w1 (.cells tc 23)
  replace rpb := row_kept rpb kn
  have Kw2 := Kw1.onto kn
  generalize w1.alloc (.cells tc 23) = w2 at kn rtb Kw2 rpb ⊢
  obtain ⟨tb, htb⟩ : ∃ n, n = w1.heap.size := ⟨_, rfl⟩
  rw [← htb] at rtb
  (try rw [← htb])
  clear htb kn Kw1
  refine @BigFrame.wpList_want _ _ _ _ _ _ _ ?hw93030 ?_
  case hw93030 => kernel_rfl
  intro K hK
  go_simp
  refine hK _ _ ?_
  clear hK K
  have kn : Kept w2.heap.size w2.heap.size w2 (w2.alloc (.cells sc 23)) := (Kept.refl _ _ _).alloc (Nat.le_refl _) _
  have rsb := heap_new w2 (.cells sc 23)
  replace rpb := row_kept rpb kn
  replace rtb := row_kept rtb kn
  have Kw3 := Kw2.onto kn
  generalize w2.alloc (.cells sc 23) = w3 at kn rsb Kw3 rpb rtb ⊢
  obtain ⟨sb, hsb⟩ : ∃ n, n = w2.heap.size := ⟨_, rfl⟩
  rw [← hsb] at rsb
  (try rw [← hsb])
  clear hsb kn Kw2
  refine @BigFrame.wpList_want _ _ _ _ _ _ _ ?hw93031 ?_
  case hw93031 => kernel_rfl
  intro K hK
  go_simp
  refine hK _ _ ?_
  clear hK K
  have Rpb := Lib.hid rpb
  clear rpb
  have Rtb := Lib.hid rtb
  clear rtb
  have Rsb := Lib.hid rsb
  clear rsb
  have KW := Lib.hid Kw3
  clear Kw3
  go_upto_region 1 with fail
  refine wp_region_lit ?_
  refine @BigFrame.wpList_want _ _ _ _ _ _ _ ?hw93032 ?_
  case hw93032 => kernel_rfl
  intro K hK
  go_simp
  go_at_call 30
  refine (new_calls w3).mono ?_
  rintro e w4 ⟨rfl, hw4, k4, s4⟩
  have U4 : Hid (Po w4 (w3.heap.size + 1) w3.heap.size (some []) w4) := Lib.hid ⟨hw4, htab.out.onto11 (KW.out.onto k4), Kept.refl _ _ _, Fr.refl _ _, Nat.lt_of_lt_of_le htab.out.lt (KW.out.size)⟩
  have Rpb4 := Lib.hid (row_kept Rpb.out k4)
  have Rtb4 := Lib.hid (row_kept Rtb.out k4)
  have Rsb4 := Lib.hid (row_kept Rsb.out k4)
  have Npb : Hid (pb ≠ w3.heap.size) := Lib.hid (Nat.ne_of_lt (lt_of_block Rpb.out))
  have Ntb : Hid (tb ≠ w3.heap.size) := Lib.hid (Nat.ne_of_lt (lt_of_block Rtb.out))
  have Nsb : Hid (sb ≠ w3.heap.size) := Lib.hid (Nat.ne_of_lt (lt_of_block Rsb.out))
  have K4 := Lib.hid (KW.out.onto k4)
  have HS3 := Lib.hid KW.out.size
  clear hw4 k4 s4 Rpb Rtb Rsb KW
  generalize w3.heap.size = wb at U4 Npb Ntb Nsb HS3 ⊢
  refine hK _ _ ?_
  clear hK K
  refine @BigFrame.wpList_want _ _ _ _ _ _ _ ?hw93033 ?_
  case hw93033 => kernel_rfl
  intro K hK
  go_simp
  refine hK _ _ ?_
  clear hK K
  go_upto_region 2 with fail
  refine wp_region_lit ?_
  refine @BigFrame.wpList_want _ _ _ _ _ _ _ ?hw93035 ?_
  case hw93035 => kernel_rfl
  intro K hK
  go_simp
  refine hK _ _ ?_
  clear hK K
  refine @wpList_load_known _ _ _ _ _ _ _ ?hw93036 23 (.tmp 4) rfl (pb) (0) rfl (.agg pc) (HLP.out _ _ (U4.out.box Rpb4.out Npb.out (by decide))) ?_
  case hw93036 => kernel_rfl
  simp only [Act.put, List.setIfInBounds_toArray, List.set_cons_zero, List.set_cons_succ]
  refine @BigFrame.wpList_want _ _ _ _ _ _ _ ?hw93034 ?_
  case hw93034 => kernel_rfl
  intro K hK
  go_simp
  go_at_call 39
  refine (HH1.out _ _ _ _ U4.out).mono ?_
  rintro e w5 ⟨rfl, u5⟩
  have U5 := Lib.hid u5
  clear u5
  refine hK _ _ ?_
  clear hK K
  go_upto_region 3 with fail
  refine wp_region_lit ?_
  refine @BigFrame.wpList_want _ _ _ _ _ _ _ ?hw93038 ?_
  case hw93038 => kernel_rfl
  intro K hK
  go_simp
  refine hK _ _ ?_
  clear hK K
  refine @BigFrame.wpList_want _ _ _ _ _ _ _ ?hw93039 ?_
  case hw93039 => kernel_rfl
  intro K hK
  go_simp
  refine hK _ _ ?_
  clear hK K
  refine @BigFrame.wpList_want _ _ _ _ _ _ _ ?hw93037 ?_
  case hw93037 => kernel_rfl
  intro K hK
  go_simp
  go_at_call 31
  refine (HN1.out _ _ _ _ U5.out).mono ?_
  rintro e w6 ⟨rfl, u6⟩
  have U6 := Lib.hid u6
  clear u6
  refine hK _ _ ?_
  clear hK K
  go_upto_region 4 with fail
  refine wp_region_lit ?_
  refine @BigFrame.wpList_want _ _ _ _ _ _ _ ?hw93041 ?_
  case hw93041 => kernel_rfl
  intro K hK
  go_simp
  refine hK _ _ ?_
  clear hK K
  refine @wpList_load_known _ _ _ _ _ _ _ ?hw93042 23 (.tmp 6) rfl (tb) (0) rfl (.agg tc) (HLT.out _ _ (U6.out.box Rtb4.out Ntb.out (by decide))) ?_
  case hw93042 => kernel_rfl
  simp only [Act.put, List.setIfInBounds_toArray, List.set_cons_zero, List.set_cons_succ]
  refine @BigFrame.wpList_want _ _ _ _ _ _ _ ?hw93040 ?_
  case hw93040 => kernel_rfl
  intro K hK
  go_simp
  go_at_call 39
  refine (HH2.out _ _ _ _ U6.out).mono ?_
  rintro e w7 ⟨rfl, u7⟩
  have U7 := Lib.hid u7
  clear u7
  refine hK _ _ ?_
  clear hK K
  go_upto_region 5 with fail
  refine wp_region_lit ?_
  refine @BigFrame.wpList_want _ _ _ _ _ _ _ ?hw93044 ?_
  case hw93044 => kernel_rfl
  intro K hK
  go_simp
  refine hK _ _ ?_
  clear hK K
  refine @wpList_load_known _ _ _ _ _ _ _ ?hw93045 23 (.tmp 7) rfl (sb) (0) rfl (.agg sc) (HLS.out _ _ (U7.out.box Rsb4.out Nsb.out (by decide))) ?_
  case hw93045 => kernel_rfl
  simp only [Act.put, List.setIfInBounds_toArray, List.set_cons_zero, List.set_cons_succ]
  refine @BigFrame.wpList_want _ _ _ _ _ _ _ ?hw93043 ?_
  case hw93043 => kernel_rfl
  intro K hK
  go_simp
  go_at_call 39
  refine (HH3.out _ _ _ _ U7.out).mono ?_
  rintro e w8 ⟨rfl, u8⟩
  have U8 := Lib.hid u8
  clear u8
  refine hK _ _ ?_
  clear hK K
  go_upto_region 6 with fail
  refine wp_region_lit ?_
  refine @BigFrame.wpList_want _ _ _ _ _ _ _ ?hw93047 ?_
  case hw93047 => kernel_rfl
  intro K hK
  go_simp
  refine hK _ _ ?_
  clear hK K
  refine @BigFrame.wpList_want _ _ _ _ _ _ _ ?hw93046 ?_
  case hw93046 => kernel_rfl
  intro K hK
  go_simp
  go_at_call 32
  refine (HE1.out _ _ _ _ U8.out).mono ?_
  rintro e w9 ⟨E, rfl, rfl⟩
  refine hK _ _ ?_
  clear hK K
  refine @BigFrame.wpList_want _ _ _ _ _ _ _ ?hw93048 ?_
  case hw93048 => kernel_rfl
  intro K hK
  go_simp
  refine hK _ _ ?_
  clear hK K
  refine @BigFrame.wpList_want _ _ _ _ _ _ _ ?hw93049 ?_
  case hw93049 => kernel_rfl
  intro K hK
  go_simp
  refine hK _ _ ?_
  clear hK K
  refine @BigFrame.wpList_want _ _ _ _ _ _ _ ?hw93050 ?_
  case hw93050 => kernel_rfl
  intro K hK
  go_simp
  refine hK _ _ ?_
  clear hK K
  refine @BigFrame.wpList_want _ _ _ _ _ _ _ ?hw93051 ?_
  case hw93051 => kernel_rfl
  intro K hK
  go_simp
  refine hK _ _ ?_
  clear hK K
  refine @BigFrame.wpList_want _ _ _ _ _ _ _ ?hw93052 ?_
  case hw93052 => kernel_rfl
  intro K hK
  go_simp
  refine hK _ _ ?_
  clear hK K
  go_wp2
  go_ret
  refine ⟨rfl, ?_⟩
  have k8 := U8.out.kp
  have hs3 := HS3.out
  exact K4.out.trans (k8.mono (by omega) (fun i hi _ => by omega))

set_option maxRecDepth 100000 in
set_option maxHeartbeats 6400000 in
theorem refcontext_calls11 (p t s : List UInt8) (hp : p.length = 32) (ht : t.length = 32) (hs : s.length = 32) (n : Nat) (hn : n ≤ 4611686018427387903) (w : World) : Calls Tryd.prog 21 #[.agg (bcells p).toArray, .int .i64 (n : Int), .agg (bcells t).toArray, .agg (bcells s).toArray] w fun e w' => e = .returned (.string (str (Ky.ctx p n t s))) ∧ Kept w.heap.size w.heap.size w w' := by
  have HTP := Lib.hid (fun u => reftext_calls11 p (Lib.hid hp) u)
  have HTT := Lib.hid (fun u => reftext_calls11 t (Lib.hid ht) u)
  have HTS := Lib.hid (fun u => reftext_calls11 s (Lib.hid hs) u)
  have HNU := Lib.hid (fun u => refnum n u hn)
  have HLP := Lib.hid (fun (u : World) (b : Nat) (h : u.heap[b]? = some (.cells (bcells p).toArray 22 (0, 0))) => load_arr11 hp h)
  have HLT := Lib.hid (fun (u : World) (b : Nat) (h : u.heap[b]? = some (.cells (bcells t).toArray 22 (0, 0))) => load_arr11 ht h)
  have HLS := Lib.hid (fun (u : World) (b : Nat) (h : u.heap[b]? = some (.cells (bcells s).toArray 22 (0, 0))) => load_arr11 hs h)
  have HFIN : Hid (str p ++ str (Wm.enc n) ++ str t ++ str s = str (Ky.ctx p n t s)) := Lib.hid (by rw [str_append, str_append, str_append]; rfl)
  have z1 : (str p).size = 32 := by rw [str_size, hp]
  have z2 : (str (Wm.enc n)).size ≤ 8 := by rw [str_size]; exact Wm.enc_length_le n
  have z3 : (str t).size = 32 := by rw [str_size, ht]
  have z4 : (str s).size = 32 := by rw [str_size, hs]
  generalize str (Ky.ctx p n t s) = tx at HFIN ⊢
  generalize str p = ps at HTP HFIN z1
  generalize str t = ts at HTT HFIN z3
  generalize str s = ss at HTS HFIN z4
  generalize str (Wm.enc n) = ns at HNU HFIN z2
  generalize (bcells p).toArray = pc at HTP HLP ⊢
  generalize (bcells t).toArray = tc at HTT HLT ⊢
  generalize (bcells s).toArray = sc at HTS HLS ⊢
  have a1 : (ps ++ ns : ByteArray).size = ps.size + ns.size := ByteArray.size_append
  have a2 : (ps ++ ns ++ ts : ByteArray).size = (ps ++ ns : ByteArray).size + ts.size := ByteArray.size_append
  have zz1 : ¬ 9223372036854775807 < ps.size + ns.size := by omega
  have zz2 : ¬ 9223372036854775807 < ps.size + ns.size + ts.size := by omega
  have zz3 : ¬ 9223372036854775807 < ps.size + ns.size + ts.size + ss.size := by omega
  clear hp ht hs hn a1 a2 z1 z2 z3 z4
  go_enter Tryd.func21, Tryd.ntmps21
  go_upto_region 0 with fail
  refine wp_region_lit ?_
  refine @BigFrame.wpList_want _ _ _ _ _ _ _ ?hw93053 ?_
  case hw93053 => kernel_rfl
  intro K hK
  go_simp
  refine hK _ _ ?_
  clear hK K
  have kn : Kept w.heap.size w.heap.size w (w.alloc (.cells pc 22)) := (Kept.refl _ _ _).alloc (Nat.le_refl _) _
  have rpb := heap_new w (.cells pc 22)
  have Kw1 := kn
  generalize w.alloc (.cells pc 22) = w1 at kn rpb Kw1  ⊢
  obtain ⟨pb, hpb⟩ : ∃ n, n = w.heap.size := ⟨_, rfl⟩
  rw [← hpb] at rpb
  (try rw [← hpb])
  clear hpb kn
  refine @BigFrame.wpList_want _ _ _ _ _ _ _ ?hw93054 ?_
  case hw93054 => kernel_rfl
  intro K hK
  go_simp
  refine hK _ _ ?_
  clear hK K
  have kn : Kept w1.heap.size w1.heap.size w1 (w1.alloc (.cells tc 22)) := (Kept.refl _ _ _).alloc (Nat.le_refl _) _
  have rtb := heap_new w1 (.cells tc 22)
  replace rpb := row_kept rpb kn
  have Kw2 := Kw1.onto kn
  generalize w1.alloc (.cells tc 22) = w2 at kn rtb Kw2 rpb ⊢
  obtain ⟨tb, htb⟩ : ∃ n, n = w1.heap.size := ⟨_, rfl⟩
  rw [← htb] at rtb
  (try rw [← htb])
  clear htb kn Kw1
  refine @BigFrame.wpList_want _ _ _ _ _ _ _ ?hw93055 ?_
  case hw93055 => kernel_rfl
  intro K hK
  go_simp
  refine hK _ _ ?_
  clear hK K
  have kn : Kept w2.heap.size w2.heap.size w2 (w2.alloc (.cells sc 22)) := (Kept.refl _ _ _).alloc (Nat.le_refl _) _
  have rsb := heap_new w2 (.cells sc 22)
  replace rpb := row_kept rpb kn
  replace rtb := row_kept rtb kn
  have Kw3 := Kw2.onto kn
  generalize w2.alloc (.cells sc 22) = w3 at kn rsb Kw3 rpb rtb ⊢
  obtain ⟨sb, hsb⟩ : ∃ n, n = w2.heap.size := ⟨_, rfl⟩
  rw [← hsb] at rsb
  (try rw [← hsb])
  clear hsb kn Kw2
  refine @BigFrame.wpList_want _ _ _ _ _ _ _ ?hw93056 ?_
  case hw93056 => kernel_rfl
  intro K hK
  go_simp
  refine hK _ _ ?_
  clear hK K
  have Rpb := Lib.hid rpb
  clear rpb
  have Rtb := Lib.hid rtb
  clear rtb
  have Rsb := Lib.hid rsb
  clear rsb
  have KW := Lib.hid Kw3
  clear Kw3
  go_upto_region 1 with fail
  have HLA := Lib.hid (fun (x : World) (k : Kept w3.heap.size w3.heap.size w3 x) => HLP.out x pb (row_kept Rpb.out k))
  have HLB := Lib.hid (fun (x : World) (k : Kept w3.heap.size w3.heap.size w3 x) => HLT.out x tb (row_kept Rtb.out k))
  have HLC := Lib.hid (fun (x : World) (k : Kept w3.heap.size w3.heap.size w3 x) => HLS.out x sb (row_kept Rsb.out k))
  have KD : Kept w3.heap.size w3.heap.size w3 w3.drew := (Kept.refl _ _ _).drew
  refine wp_region_noPanic ?_
  refine wp_region_held_drew (S := fun w' => Kept w3.heap.size w3.heap.size w3 w') (by kernel_rfl) (KD) (fun hH => ?_)
  refine wpAnyH_take_at (i := 0) 9 (.agg pc) rfl rfl (by kernel_rfl) (by kernel_rfl) (by kernel_rfl) (fun _ _ _ h => h) (yieldsIf_load_known (by kernel_rfl) 22 _ rfl (pb) (0) rfl (.agg pc) (HLA.out)) hH ?_
  simp only [List.setIfInBounds_toArray, List.set_cons_zero, List.set_cons_succ]
  refine wpAnyH_take_ex (i := 2) 11 rfl rfl (by kernel_rfl) (by kernel_rfl) (by kernel_rfl) (fun _ _ _ _ h => h) (by kernel_rfl) hH ?_
  apply Exists.intro
  apply And.intro
  · intro w9 _
    go_simp
    first | done | rfl
  simp only [List.setIfInBounds_toArray, List.set_cons_zero, List.set_cons_succ]
  refine wpAnyH_take_at (i := 5) 14 (.agg tc) rfl rfl (by kernel_rfl) (by kernel_rfl) (by kernel_rfl) (fun _ _ _ h => h) (yieldsIf_load_known (by kernel_rfl) 22 _ rfl (tb) (0) rfl (.agg tc) (HLB.out)) hH ?_
  simp only [List.setIfInBounds_toArray, List.set_cons_zero, List.set_cons_succ]
  refine wpAnyH_take_at (i := 8) 17 (.agg sc) rfl rfl (by kernel_rfl) (by kernel_rfl) (by kernel_rfl) (fun _ _ _ h => h) (yieldsIf_load_known (by kernel_rfl) 22 _ rfl (sb) (0) rfl (.agg sc) (HLC.out)) hH ?_
  simp only [List.setIfInBounds_toArray, List.set_cons_zero, List.set_cons_succ]
  refine wpAnyH_ready (rs := [1]) (by kernel_rfl) (by simp) ?_
  refine AllReadyH.cons rfl (fun K hK => ?_) AllReadyH.nil
  rw [if_pos (by rfl)]
  go_simp
  go_wp2_with (go_at_call 36; refine (HTP.out _).mono ?_; rintro e w4 ⟨rfl, kw4⟩)
  have K4 : Kept w3.heap.size w3.heap.size w3 w4 := KD.trans (kw4.mono KD.size (fun i hi _ => Nat.ne_of_lt (Nat.lt_of_lt_of_le hi KD.size)))
  refine hK.out _ _ (K4) (fun hH => ?_)
  clear hK K
  refine wpAnyH_ready (rs := [3]) (by kernel_rfl) (by simp) ?_
  refine AllReadyH.cons rfl (fun K hK => ?_) AllReadyH.nil
  rw [if_pos (by rfl)]
  go_simp
  go_wp2_with (go_at_call 33; refine (HNU.out _).mono ?_; rintro e w5 ⟨rfl, kw5⟩)
  have K5 : Kept w3.heap.size w3.heap.size w3 w5 := K4.trans (kw5.mono K4.size (fun i hi _ => Nat.ne_of_lt (Nat.lt_of_lt_of_le hi K4.size)))
  refine hK.out _ _ (K5) (fun hH => ?_)
  clear hK K
  refine wpAnyH_take_ex (i := 4) 13 rfl rfl (by kernel_rfl) (by kernel_rfl) (by kernel_rfl) (fun _ _ _ _ h => h) (by kernel_rfl) hH ?_
  apply Exists.intro
  apply And.intro
  · intro w9 _
    go_simp
    first | done | rfl
  simp only [List.setIfInBounds_toArray, List.set_cons_zero, List.set_cons_succ]
  refine wpAnyH_ready (rs := [6]) (by kernel_rfl) (by simp) ?_
  refine AllReadyH.cons rfl (fun K hK => ?_) AllReadyH.nil
  rw [if_pos (by rfl)]
  go_simp
  go_wp2_with (go_at_call 36; refine (HTT.out _).mono ?_; rintro e w6 ⟨rfl, kw6⟩)
  have K6 : Kept w3.heap.size w3.heap.size w3 w6 := K5.trans (kw6.mono K5.size (fun i hi _ => Nat.ne_of_lt (Nat.lt_of_lt_of_le hi K5.size)))
  refine hK.out _ _ (K6) (fun hH => ?_)
  clear hK K
  refine wpAnyH_take_ex (i := 7) 16 rfl rfl (by kernel_rfl) (by kernel_rfl) (by kernel_rfl) (fun _ _ _ _ h => h) (by kernel_rfl) hH ?_
  apply Exists.intro
  apply And.intro
  · intro w9 _
    go_simp
    first | done | rfl
  simp only [List.setIfInBounds_toArray, List.set_cons_zero, List.set_cons_succ]
  refine wpAnyH_ready (rs := [9]) (by kernel_rfl) (by simp) ?_
  refine AllReadyH.cons rfl (fun K hK => ?_) AllReadyH.nil
  rw [if_pos (by rfl)]
  go_simp
  go_wp2_with (go_at_call 36; refine (HTS.out _).mono ?_; rintro e w7 ⟨rfl, kw7⟩)
  have K7 : Kept w3.heap.size w3.heap.size w3 w7 := K6.trans (kw7.mono K6.size (fun i hi _ => Nat.ne_of_lt (Nat.lt_of_lt_of_le hi K6.size)))
  refine hK.out _ _ (K7) (fun hH => ?_)
  clear hK K
  refine wpAnyH_take_ex (i := 10) 19 rfl rfl (by kernel_rfl) (by kernel_rfl) (by kernel_rfl) (fun _ _ _ _ h => h) (by kernel_rfl) hH ?_
  apply Exists.intro
  apply And.intro
  · intro w9 _
    go_simp
    first | done | rfl
  simp only [List.setIfInBounds_toArray, List.set_cons_zero, List.set_cons_succ]
  refine wpAnyH_take_ex (i := 11) 8 rfl rfl (by kernel_rfl) (by kernel_rfl) (by kernel_rfl) (fun _ _ _ _ h => h) (by kernel_rfl) hH ?_
  apply Exists.intro
  apply And.intro
  · intro w9 _
    go_simp
    first | done | rfl
  simp only [List.setIfInBounds_toArray, List.set_cons_zero, List.set_cons_succ]
  refine wpAnyH_done (by kernel_rfl) ?_ _
  refine NoPanic.normal ?_
  go_wp2
  go_ret
  exact ⟨by rw [HFIN.out]; rfl, KW.out.onto K7⟩

end Go.Proofs.YtdfbmijbmlainaaDoor

namespace Go.Proofs.YtdfbmijbmlainaaDoor
open Go.RowKit Go.Lib

theorem ky_list32 {p : List UInt8 → Prop} (h : ∀ b0 b1 b2 b3 b4 b5 b6 b7 b8 b9 b10 b11 b12 b13 b14 b15 b16 b17 b18 b19 b20 b21 b22 b23 b24 b25 b26 b27 b28 b29 b30 b31, p [b0, b1, b2, b3, b4, b5, b6, b7, b8, b9, b10, b11, b12, b13, b14, b15, b16, b17, b18, b19, b20, b21, b22, b23, b24, b25, b26, b27, b28, b29, b30, b31]) : ∀ l : List UInt8, l.length = 32 → p l := fun l hl =>
  match l, hl with
  | [b0, b1, b2, b3, b4, b5, b6, b7, b8, b9, b10, b11, b12, b13, b14, b15, b16, b17, b18, b19, b20, b21, b22, b23, b24, b25, b26, b27, b28, b29, b30, b31], _ => h b0 b1 b2 b3 b4 b5 b6 b7 b8 b9 b10 b11 b12 b13 b14 b15 b16 b17 b18 b19 b20 b21 b22 b23 b24 b25 b26 b27 b28 b29 b30 b31
namespace Ky
/-- The seven secrets, behind i derivations. -/
def st (j c : List UInt8) : Nat → List (List UInt8)
  | 0 => [j, z32, z32, z32, z32, z32, z32]
  | i + 1 => (st j c i).set (i + 1) (key j c (i + 1))
def src : Nat → Nat
  | 0 => 0
  | 1 => 0
  | _ => 2
def lab : Nat → ByteArray
  | 0 => ⟨#[119, 101, 108, 99, 111, 109, 101]⟩
  | 1 => ⟨#[101, 112, 111, 99, 104]⟩
  | 2 => ⟨#[105, 110, 105, 116]⟩
  | 3 => ⟨#[99, 111, 110, 102, 105, 114, 109]⟩
  | 4 => ⟨#[97, 112, 112, 115]⟩
  | _ => ⟨#[101, 120, 112, 111, 114, 116]⟩
def cx (c : ByteArray) : Nat → ByteArray
  | 1 => c
  | _ => ⟨#[]⟩
theorem st_length (j c : List UInt8) : ∀ i, (st j c i).length = 7
  | 0 => rfl
  | i + 1 => by rw [st, List.length_set, st_length j c i]
theorem st_all {j : List UInt8} (hj : j.length = 32) (c : List UInt8) : ∀ i, ∀ x ∈ st j c i, x.length = 32
  | 0 => fun x hx => by
    rcases List.mem_cons.1 hx with rfl | hx
    · exact hj
    · have : x = z32 := by simpa using hx
      rw [this]; rfl
  | i + 1 => fun x hx => by
    rcases List.mem_or_eq_of_mem_set hx with h | h
    · exact st_all hj c i x h
    · rw [h]; exact key_length hj c _
theorem key_step (j : List UInt8) (c : ByteArray) (i : Nat) (hi : i < 6) : key j c.data.toList (i + 1) = Mc.derive (key j c.data.toList (src i)) (lab i).data.toList (cx c i).data.toList := by
  match i, hi with
  | 0, _ => rfl
  | 1, _ => rfl
  | 2, _ => rfl
  | 3, _ => rfl
  | 4, _ => rfl
  | 5, _ => rfl
theorem st_src (j c : List UInt8) (i : Nat) (hi : i < 6) : (st j c i)[src i]? = some (key j c (src i)) := by
  match i, hi with
  | 0, _ => rfl
  | 1, _ => rfl
  | 2, _ => rfl
  | 3, _ => rfl
  | 4, _ => rfl
  | 5, _ => rfl
theorem src_lt (i : Nat) : src i < 7 := by
  unfold src
  split <;> decide
theorem lab_size (i : Nat) : (lab i).size ≤ 100 := by
  unfold lab
  split <;> decide
theorem cx_size (c : ByteArray) (i : Nat) : (cx c i).size ≤ c.size := by
  unfold cx
  split
  · exact Nat.le_refl _
  · exact Nat.zero_le _
/-- Rows of digests. -/
theorem flat_part {L : List (List UInt8)} (_h32 : ∀ x ∈ L, x.length = 32) (m : Nat) (x : List UInt8) (hx : L[m]? = some x) : L.flatten = (L.take m).flatten ++ (x ++ (L.drop (m + 1)).flatten) := by
  have hm : m < L.length := by
    rcases Nat.lt_or_ge m L.length with h | h
    · exact h
    · rw [List.getElem?_eq_none h] at hx; cases hx
  have e : x = L[m] := by rw [List.getElem?_eq_getElem hm] at hx; exact (Option.some.inj hx).symm
  subst e
  conv => lhs; rw [← List.take_append_drop m L, List.drop_eq_getElem_cons hm]
  rw [List.flatten_append, List.flatten_cons]
theorem flat_length {L : List (List UInt8)} (h32 : ∀ x ∈ L, x.length = 32) : L.flatten.length = 32 * L.length := by
  induction L with
  | nil => rfl
  | cons x L ih =>
    rw [List.flatten_cons, List.length_append, List.length_cons, h32 x (List.mem_cons_self ..), ih (fun y hy => h32 y (List.mem_cons_of_mem _ hy))]
    omega
theorem take_length {L : List (List UInt8)} (h32 : ∀ x ∈ L, x.length = 32) (m : Nat) (hm : m ≤ L.length) : (L.take m).flatten.length = 32 * m := by
  rw [flat_length (fun x hx => h32 x (List.mem_of_mem_take hx)), List.length_take, Nat.min_eq_left hm]
theorem flat_set {L : List (List UInt8)} (m : Nat) (x : List UInt8) (hm : m < L.length) : (L.set m x).flatten = (L.take m).flatten ++ (x ++ (L.drop (m + 1)).flatten) := by
  rw [List.set_eq_take_append_cons_drop, if_pos hm, List.flatten_append, List.flatten_cons]
def flat (j c : List UInt8) (i : Nat) : List UInt8 := (st j c i).flatten
theorem flat_len {j : List UInt8} (hj : j.length = 32) (c : List UInt8) (i : Nat) : (flat j c i).length = 224 := by
  rw [flat, flat_length (st_all hj c i), st_length]
def secs (j c : List UInt8) : List UInt8 := flat j c 6
theorem secs_eq (j c : List UInt8) : secs j c = [key j c 0, key j c 1, key j c 2, key j c 3, key j c 4, key j c 5, key j c 6].flatten := rfl
end Ky
/-- What lies at a place of a row of digests. -/
theorem sec_range {w : World} {b : Nat} {t : TypeId} {L : List (List UInt8)} (h32 : ∀ x ∈ L, x.length = 32) (h : w.heap[b]? = some (.cells (bcells L.flatten).toArray t (0, 0))) (m : Nat) (x : List UInt8) (hx : L[m]? = some x) : w.rangeAt b (32 * m) (bcells x) := fun j v hj => by
  have hm : m < L.length := by
    rcases Nat.lt_or_ge m L.length with h | h
    · exact h
    · rw [List.getElem?_eq_none h] at hx; cases hx
  have ht := Ky.take_length h32 m (Nat.le_of_lt hm)
  rw [cell_of_row w b (32 * m + j) _ _ _ h, List.getElem?_toArray, Ky.flat_part h32 m x hx, bcells_append, bcells_append]
  rw [List.getElem?_append_right (by rw [bcells_length, ht]; omega), bcells_length, ht, Nat.add_sub_cancel_left]
  have h2 : j < (bcells x).length := by
    rcases Nat.lt_or_ge j (bcells x).length with h | h
    · exact h
    · rw [List.getElem?_eq_none h] at hj; cases hj
  rw [List.getElem?_append_left h2]
  exact hj
theorem there_row11 {w : World} {b : Nat} {cs : Array Value} {t : TypeId} (h : w.heap[b]? = some (.cells cs t (0, 0))) {o n : Nat} (hn : o + n ≤ cs.size) : w.there b o n := fun j hj => by
  refine ⟨?_, by simp [World.frozen?, h]⟩
  rw [cell_of_row w b (o + j) _ _ _ h, Array.getElem?_eq_getElem (by omega)]
  rfl
/-- Cells stored into the middle of a row. -/
theorem setCells_row {b : Nat} {t : TypeId} : ∀ (vs A B C : List Value) (w : World), vs.length = B.length → w.heap[b]? = some (.cells (A ++ (B ++ C)).toArray t (0, 0)) → (w.setCells b A.length vs).heap[b]? = some (.cells (A ++ (vs ++ C)).toArray t (0, 0))
  | [], A, [], C, w, _, h => h
  | v :: vs, A, x :: B, C, w, hl, h => by
    have h1 := cells_set h A.length v
    have e1 : (A ++ (x :: B ++ C)).set A.length v = (A ++ [v]) ++ (B ++ C) := by simp
    rw [e1] at h1
    have := setCells_row vs (A ++ [v]) B C _ (by simpa using hl) h1
    rw [World.setCells]
    have e2 : (A ++ [v]).length = A.length + 1 := by simp
    rw [e2] at this
    have e3 : (A ++ [v]) ++ (vs ++ C) = A ++ (v :: vs ++ C) := by simp
    rw [e3] at this
    exact this
theorem setCells_other {b i : Nat} (hne : i ≠ b) : ∀ (vs : List Value) (o : Nat) (x : World), (x.setCells b o vs).heap[i]? = x.heap[i]?
  | [], _, _ => rfl
  | _ :: r, o, _ => (setCells_other hne r (o + 1) _).trans (Below.heap_setCell _ _ _ _ hne)
theorem kept_setCells11 {w : World} (b : Nat) (hb : w.heap.size ≤ b) : ∀ (vs : List Value) (o : Nat) (x : World), Kept w.heap.size w.heap.size w x → Kept w.heap.size w.heap.size w (x.setCells b o vs)
  | [], _, _, h => h
  | v :: r, o, _, h => kept_setCells11 b hb r (o + 1) _ (h.set (.inr hb) o v)
theorem sec_stored {w : World} {b : Nat} {t : TypeId} {L : List (List UInt8)} (h32 : ∀ x ∈ L, x.length = 32) (h : w.heap[b]? = some (.cells (bcells L.flatten).toArray t (0, 0))) (m : Nat) (hm : m < L.length) (x : List UInt8) (hx : x.length = 32) : (w.setCells b (32 * m) (bcells x)).heap[b]? = some (.cells (bcells (L.set m x).flatten).toArray t (0, 0)) := by
  rw [Ky.flat_part h32 m L[m] (List.getElem?_eq_getElem hm), bcells_append, bcells_append] at h
  have := setCells_row (bcells x) (bcells (L.take m).flatten) (bcells L[m]) (bcells (L.drop (m + 1)).flatten) w (by rw [bcells_length, bcells_length, hx, h32 _ (List.getElem_mem hm)]) h
  rw [bcells_length, Ky.take_length h32 m (Nat.le_of_lt hm)] at this
  rw [Ky.flat_set m x hm, bcells_append, bcells_append]
  exact this
section
variable {P : Program} {ops : Array Oper} {rest : List Oper} {o : Oper} {a : Act} {w w' : World} {Q : Exit → Act → World → Prop}
theorem wpL_buildN (hw : Region.wanted o (yielded ops a.tmps) = true) (t : TypeId) (xs : Array (Nat × Operand)) (ho : o.op = .build t xs) (vs : Array (Nat × Value)) (hv : (xs.map fun (i, x) => (i, a.eval x)) = vs) {u : Value} (hr : (Instr.build t vs).run P w = .ok u w) (hk : wpList P ops Q rest (a.put o.dst u) w) : wpList P ops Q (o :: rest) a w := by
  subst hv
  refine wpList_step fun K hK => ?_
  rw [if_pos hw]
  unfold Oper.wp execOp
  simp only [ho, Sem.run_bind, hr, Result.andThen_ok, Sem.run_pure]
  exact hK _ _ hk
theorem wp_buildN {K : Act → World → Prop} (t : TypeId) (xs : Array (Nat × Operand)) (ho : o.op = .build t xs) (vs : Array (Nat × Value)) (hv : (xs.map fun (i, x) => (i, a.eval x)) = vs) {u : Value} (hr : (Instr.build t vs).run P w = .ok u w) (hk : K (a.put o.dst u) w) : o.wp P a w K Q := by
  subst hv
  unfold Oper.wp execOp
  simp only [ho, Sem.run_bind, hr, Result.andThen_ok, Sem.run_pure]
  exact hk
theorem wpL_indexN (hw : Region.wanted o (yielded ops a.tmps) = true) (t : TypeId) (x y : Operand) (ho : o.op = .index t x y) (A : Array Value) (i : Int) (hx : a.eval x = .agg A) (hy : a.eval y = .int .i64 i) {u : Value} (hr : (Instr.index t (.agg A) (.int .i64 i)).run P w = .ok u w) (hk : wpList P ops Q rest (a.put o.dst u) w) : wpList P ops Q (o :: rest) a w := by
  refine wpList_step fun K hK => ?_
  rw [if_pos hw]
  unfold Oper.wp execOp
  simp only [ho, hx, hy, Sem.run_bind, hr, Result.andThen_ok, Sem.run_pure]
  exact hK _ _ hk
end
def zeros224 : Array Value := (bcells (List.replicate 224 0)).toArray
set_option maxRecDepth 100000 in
theorem alloc_secs (w : World) : (Instr.alloc 26 true (.tuple #[])).run Tryd.prog w = .ok (.pointer (some ⟨w.heap.size, 0, none⟩)) (w.alloc (.cells zeros224 26)) := by kernel_rfl
set_option maxRecDepth 100000 in
theorem secInfo {l : List UInt8} (h : l.length = 224) : (Tryd.prog.info? 26).map (·.size) = some (bcells l).toArray.size := by rw [List.size_toArray, bcells_length, h]; kernel_rfl
theorem secSize {l : List UInt8} (h : l.length = 224) : zeros224.size = (bcells l).toArray.size := by rw [show (bcells l).toArray.size = l.length by rw [List.size_toArray, bcells_length], h]; rfl
theorem load_secs {w : World} {b : Nat} {l : List UInt8} (hl : l.length = 224) (h : w.heap[b]? = some (.cells (bcells l).toArray 26 (0, 0))) : (loadVar 26 ⟨b, 0, none⟩).run Tryd.prog w = .ok (.agg (bcells l).toArray) w :=
  run_loadVar_row w b 26 26 _ (0, 0) _ h Tryd.underlying26 rfl (secInfo hl)
/-- One secret, read out of the row. -/
theorem load_sec {w : World} {b : Nat} {t : TypeId} {L : List (List UInt8)} (h32 : ∀ x ∈ L, x.length = 32) (h : w.heap[b]? = some (.cells (bcells L.flatten).toArray t (0, 0))) (m : Nat) (x : List UInt8) (hx : L[m]? = some x) : (loadVar 23 ⟨b, 32 * m, none⟩).run Tryd.prog w = .ok (.agg (bcells x).toArray) w :=
  run_loadVar_mid w b (32 * m) 23 (bcells x) _ (sec_range h32 h m x hx) Tryd.underlying23 rfl (by have := keyInfo11 (h32 x (List.mem_of_getElem? hx)); simpa using this)
theorem load_sec22 {w : World} {b : Nat} {t : TypeId} {L : List (List UInt8)} (h32 : ∀ x ∈ L, x.length = 32) (h : w.heap[b]? = some (.cells (bcells L.flatten).toArray t (0, 0))) (m : Nat) (x : List UInt8) (hx : L[m]? = some x) : (loadVar 22 ⟨b, 32 * m, none⟩).run Tryd.prog w = .ok (.agg (bcells x).toArray) w :=
  run_loadVar_mid w b (32 * m) 22 (bcells x) _ (sec_range h32 h m x hx) Tryd.underlying22 rfl (by have := keyInfo22 (h32 x (List.mem_of_getElem? hx)); simpa using this)

end Go.Proofs.YtdfbmijbmlainaaDoor

namespace Go.Proofs.YtdfbmijbmlainaaDoor
open Go.RowKit Go.Lib

set_option maxRecDepth 100000 in
set_option maxHeartbeats 6400000 in
theorem app_bad11 (p : Option Addr) (k : List UInt8) (n : Int) (hn : n < 0 ∨ 64 ≤ n) (w : World) : Calls Tryd.prog 12 #[.pointer p, .agg (bcells k).toArray, .int .i64 n] w fun e w' => e = .returned (.agg (bcells Ky.z32).toArray) ∧ Kept w.heap.size w.heap.size w w' := by
  have HB0 := Lib.hid build_hash11
  have HIU := Lib.hid (keyInfo11 (l := Ky.z32) rfl)
  have HZU := Lib.hid (keySize11 (l := Ky.z32) rfl)
  have HAU := Lib.hid (bcells_all Ky.z32)
  generalize (bcells Ky.z32).toArray = zc at HB0 HIU HZU HAU ⊢
  generalize (bcells k).toArray = kc
  by_cases hn0 : n < 0
  · have hd : decide (n < 0) = true := decide_eq_true hn0
    clear hn
    go_enter Tryd.func12, Tryd.ntmps12
    go_upto_region 0 with fail
    refine wp_region_lit ?_
    refine @BigFrame.wpList_want _ _ _ _ _ _ _ ?hw94001 ?_
    case hw94001 => kernel_rfl
    intro K hK
    go_simp
    refine hK _ _ ?_
    clear hK K
    have kn : Kept w.heap.size w.heap.size w (w.alloc (.cells kc 23)) := (Kept.refl _ _ _).alloc (Nat.le_refl _) _
    have rpb := heap_new w (.cells kc 23)
    have Kw1 := kn
    generalize w.alloc (.cells kc 23) = w1 at kn rpb Kw1  ⊢
    obtain ⟨pb, hpb⟩ : ∃ n, n = w.heap.size := ⟨_, rfl⟩
    rw [← hpb] at rpb
    (try rw [← hpb])
    clear hpb kn
    refine @wpL_alloc _ _ _ _ _ _ _ _ ?hw94002 23 rfl _ (alloc_hash11 _) ?_
    case hw94002 => kernel_rfl
    simp only [Act.put, List.setIfInBounds_toArray, List.set_cons_zero, List.set_cons_succ]
    have kn : Kept w1.heap.size w1.heap.size w1 (w1.alloc (.cells zeros32 23)) := (Kept.refl _ _ _).alloc (Nat.le_refl _) _
    have rrb := heap_new w1 (.cells zeros32 23)
    replace rpb := row_kept rpb kn
    have Kw2 := Kw1.onto kn
    have HRB : Hid (w.heap.size ≤ w1.heap.size) := Lib.hid (Kw1.size)
    generalize w1.alloc (.cells zeros32 23) = w2 at kn rrb Kw2 rpb ⊢
    obtain ⟨rb, hrb⟩ : ∃ n, n = w1.heap.size := ⟨_, rfl⟩
    rw [← hrb] at rrb HRB
    (try rw [← hrb])
    clear hrb kn Kw1
    have Rpb := Lib.hid rpb
    clear rpb
    have Rrb := Lib.hid rrb
    clear rrb
    have KW := Lib.hid Kw2
    clear Kw2
    go_upto_region 2 with fail
    refine wp_region_lit ?_
    refine @wpL_build0 _ _ _ _ _ _ _ ?hw94003 23 rfl _ (HB0.out _) ?_
    case hw94003 => kernel_rfl
    simp only [Act.put, List.setIfInBounds_toArray, List.set_cons_zero, List.set_cons_succ]
    refine wpList_store_row rfl 23 _ _ rfl (rb) zc rfl rfl 23 zeros32 (Rrb.out) HIU.out HZU.out HAU.out ?_
    simp only [Act.put]
    have R9 := setRow_heap w2 rb zeros32 zc _ _ (Rrb.out)
    have k9 : Kept w.heap.size w.heap.size w (w2.setRow rb zc) := kept_setRow10 (KW.out) rb HRB.out zc
    generalize w2.setRow rb zc = w9 at R9 k9 ⊢
    go_wp2
    refine bodyPost_ret (results_cell_row rfl _ _ rb 23 zc (0, 0) _ rfl R9 Tryd.underlying23 rfl HIU.out) rfl ?_
    exact ⟨rfl, k9⟩
  · have hd : decide (n < 0) = false := decide_eq_false hn0
    have hd2 : decide (n ≥ 64) = true := decide_eq_true (by omega)
    clear hn
    go_enter Tryd.func12, Tryd.ntmps12
    go_upto_region 0 with fail
    refine wp_region_lit ?_
    refine @BigFrame.wpList_want _ _ _ _ _ _ _ ?hw94004 ?_
    case hw94004 => kernel_rfl
    intro K hK
    go_simp
    refine hK _ _ ?_
    clear hK K
    have kn : Kept w.heap.size w.heap.size w (w.alloc (.cells kc 23)) := (Kept.refl _ _ _).alloc (Nat.le_refl _) _
    have rpb := heap_new w (.cells kc 23)
    have Kw1 := kn
    generalize w.alloc (.cells kc 23) = w1 at kn rpb Kw1  ⊢
    obtain ⟨pb, hpb⟩ : ∃ n, n = w.heap.size := ⟨_, rfl⟩
    rw [← hpb] at rpb
    (try rw [← hpb])
    clear hpb kn
    refine @wpL_alloc _ _ _ _ _ _ _ _ ?hw94005 23 rfl _ (alloc_hash11 _) ?_
    case hw94005 => kernel_rfl
    simp only [Act.put, List.setIfInBounds_toArray, List.set_cons_zero, List.set_cons_succ]
    have kn : Kept w1.heap.size w1.heap.size w1 (w1.alloc (.cells zeros32 23)) := (Kept.refl _ _ _).alloc (Nat.le_refl _) _
    have rrb := heap_new w1 (.cells zeros32 23)
    replace rpb := row_kept rpb kn
    have Kw2 := Kw1.onto kn
    have HRB : Hid (w.heap.size ≤ w1.heap.size) := Lib.hid (Kw1.size)
    generalize w1.alloc (.cells zeros32 23) = w2 at kn rrb Kw2 rpb ⊢
    obtain ⟨rb, hrb⟩ : ∃ n, n = w1.heap.size := ⟨_, rfl⟩
    rw [← hrb] at rrb HRB
    (try rw [← hrb])
    clear hrb kn Kw1
    have Rpb := Lib.hid rpb
    clear rpb
    have Rrb := Lib.hid rrb
    clear rrb
    have KW := Lib.hid Kw2
    clear Kw2
    go_upto_region 2 with fail
    refine wp_region_lit ?_
    refine @wpL_build0 _ _ _ _ _ _ _ ?hw94003 23 rfl _ (HB0.out _) ?_
    case hw94003 => kernel_rfl
    simp only [Act.put, List.setIfInBounds_toArray, List.set_cons_zero, List.set_cons_succ]
    refine wpList_store_row rfl 23 _ _ rfl (rb) zc rfl rfl 23 zeros32 (Rrb.out) HIU.out HZU.out HAU.out ?_
    simp only [Act.put]
    have R9 := setRow_heap w2 rb zeros32 zc _ _ (Rrb.out)
    have k9 : Kept w.heap.size w.heap.size w (w2.setRow rb zc) := kept_setRow10 (KW.out) rb HRB.out zc
    generalize w2.setRow rb zc = w9 at R9 k9 ⊢
    go_wp2
    refine bodyPost_ret (results_cell_row rfl _ _ rb 23 zc (0, 0) _ rfl R9 Tryd.underlying23 rfl HIU.out) rfl ?_
    exact ⟨rfl, k9⟩

set_option maxRecDepth 100000 in
set_option maxHeartbeats 6400000 in
/-- Over any derivation: what is said of the world behind, once the result stands in its row. -/
theorem app_any11 (p : Option Addr) (k : List UInt8) (hk : k.length = 32) (n : Nat) (hn : n < 64) (w : World) (tab : Tab w) (Post : World → Prop)
    (hdv : ∀ (x : World) (rb : Nat), Kept w.heap.size w.heap.size w x → w.heap.size ≤ rb → x.heap[rb]? = some (.cells zeros32 23 (0, 0)) → Calls Tryd.prog 28 #[.pointer p, .agg (bcells k).toArray, .string ⟨#[97, 112, 112]⟩, .string (str (Wm.enc n))] x fun e w' => e = .returned (.agg (bcells (Ky.app k n)).toArray) ∧ w'.heap[rb]? = some (.cells zeros32 23 (0, 0)) ∧ Post (w'.setRow rb (bcells (Ky.app k n)).toArray)) :
    Calls Tryd.prog 12 #[.pointer p, .agg (bcells k).toArray, .int .i64 (n : Int)] w fun e w' => e = .returned (.agg (bcells (Ky.app k n)).toArray) ∧ Post w' := by
  have htab := Lib.hid tab
  have HDV := Lib.hid hdv
  have HN1 := Lib.hid (fun w0 base b (x : World) (u : Po w0 base b (some []) x) => u.num n (fun l hl => by cases hl; exact Nat.zero_le _))
  have HE1 := Lib.hid (fun w0 base b (x : World) (u : Po w0 base b (pNum (some []) n) x) => u.ends)
  have hpn : (pNum (some []) (n : Int)).getD [] = Wm.enc n := by
    unfold pNum
    rw [if_pos (by omega), Int.toNat_natCast]
    rfl
  rw [hpn] at HE1
  have HLD := Lib.hid (fun (u : World) (b : Nat) (h : u.heap[b]? = some (.cells (bcells k).toArray 23 (0, 0))) => load_hash11 hk h)
  have HIU := Lib.hid (keyInfo11 (Ky.app_length k n))
  have HZU := Lib.hid (keySize11 (Ky.app_length k n))
  have HAU := Lib.hid (bcells_all (Ky.app k n))
  have hd : decide ((n : Int) < 0) = false := decide_eq_false (by omega)
  have hd2 : decide ((n : Int) ≥ 64) = false := decide_eq_false (by omega)
  generalize str (Wm.enc n) = tx at HE1 HDV
  generalize pNum (some []) (n : Int) = st at HN1 HE1
  generalize (bcells (Ky.app k n)).toArray = cu at HDV HIU HZU HAU ⊢
  generalize (bcells k).toArray = kc at HDV HLD ⊢
  clear hk hn tab hdv hpn
  go_enter Tryd.func12, Tryd.ntmps12
  go_upto_region 0 with fail
  refine wp_region_lit ?_
  refine @BigFrame.wpList_want _ _ _ _ _ _ _ ?hw94006 ?_
  case hw94006 => kernel_rfl
  intro K hK
  go_simp
  refine hK _ _ ?_
  clear hK K
  have kn : Kept w.heap.size w.heap.size w (w.alloc (.cells kc 23)) := (Kept.refl _ _ _).alloc (Nat.le_refl _) _
  have rpb := heap_new w (.cells kc 23)
  have Kw1 := kn
  generalize w.alloc (.cells kc 23) = w1 at kn rpb Kw1  ⊢
  obtain ⟨pb, hpb⟩ : ∃ n, n = w.heap.size := ⟨_, rfl⟩
  rw [← hpb] at rpb
  (try rw [← hpb])
  clear hpb kn
  refine @wpL_alloc _ _ _ _ _ _ _ _ ?hw94007 23 rfl _ (alloc_hash11 _) ?_
  case hw94007 => kernel_rfl
  simp only [Act.put, List.setIfInBounds_toArray, List.set_cons_zero, List.set_cons_succ]
  have kn : Kept w1.heap.size w1.heap.size w1 (w1.alloc (.cells zeros32 23)) := (Kept.refl _ _ _).alloc (Nat.le_refl _) _
  have rrb := heap_new w1 (.cells zeros32 23)
  replace rpb := row_kept rpb kn
  have Kw2 := Kw1.onto kn
  have HRB : Hid (w.heap.size ≤ w1.heap.size) := Lib.hid (Kw1.size)
  generalize w1.alloc (.cells zeros32 23) = w2 at kn rrb Kw2 rpb ⊢
  obtain ⟨rb, hrb⟩ : ∃ n, n = w1.heap.size := ⟨_, rfl⟩
  rw [← hrb] at rrb HRB
  (try rw [← hrb])
  clear hrb kn Kw1
  have Rpb := Lib.hid rpb
  clear rpb
  have Rrb := Lib.hid rrb
  clear rrb
  have KW := Lib.hid Kw2
  clear Kw2
  go_upto_region 3 with fail
  refine wp_region_lit ?_
  refine @BigFrame.wpList_want _ _ _ _ _ _ _ ?hw94008 ?_
  case hw94008 => kernel_rfl
  intro K hK
  go_simp
  go_at_call 30
  refine (new_calls w2).mono ?_
  rintro e w4 ⟨rfl, hw4, k4, s4⟩
  have U4 : Hid (Po w4 (w2.heap.size + 1) w2.heap.size (some []) w4) := Lib.hid ⟨hw4, htab.out.onto11 (KW.out.onto k4), Kept.refl _ _ _, Fr.refl _ _, Nat.lt_of_lt_of_le htab.out.lt (KW.out.size)⟩
  have Rpb4 := Lib.hid (row_kept Rpb.out k4)
  have Rrb4 := Lib.hid (row_kept Rrb.out k4)
  have Npb : Hid (pb ≠ w2.heap.size) := Lib.hid (Nat.ne_of_lt (lt_of_block Rpb.out))
  have Nrb : Hid (rb ≠ w2.heap.size) := Lib.hid (Nat.ne_of_lt (lt_of_block Rrb.out))
  have K4 := Lib.hid (KW.out.onto k4)
  have HS3 := Lib.hid KW.out.size
  clear hw4 k4 s4 Rpb Rrb KW
  generalize w2.heap.size = wb at U4 Npb Nrb HS3 ⊢
  refine hK _ _ ?_
  clear hK K
  refine @BigFrame.wpList_want _ _ _ _ _ _ _ ?hw94009 ?_
  case hw94009 => kernel_rfl
  intro K hK
  go_simp
  refine hK _ _ ?_
  clear hK K
  go_upto_region 4 with fail
  refine wp_region_lit ?_
  refine @BigFrame.wpList_want _ _ _ _ _ _ _ ?hw94011 ?_
  case hw94011 => kernel_rfl
  intro K hK
  go_simp
  refine hK _ _ ?_
  clear hK K
  refine @BigFrame.wpList_want _ _ _ _ _ _ _ ?hw94012 ?_
  case hw94012 => kernel_rfl
  intro K hK
  go_simp
  refine hK _ _ ?_
  clear hK K
  refine @BigFrame.wpList_want _ _ _ _ _ _ _ ?hw94010 ?_
  case hw94010 => kernel_rfl
  intro K hK
  go_simp
  go_at_call 31
  refine (HN1.out _ _ _ _ U4.out).mono ?_
  rintro e w5 ⟨rfl, u5⟩
  have U5 := Lib.hid u5
  clear u5
  refine hK _ _ ?_
  clear hK K
  go_upto_region 5 with fail
  refine wp_region_lit ?_
  refine @BigFrame.wpList_want _ _ _ _ _ _ _ ?hw94014 ?_
  case hw94014 => kernel_rfl
  intro K hK
  go_simp
  refine hK _ _ ?_
  clear hK K
  refine @BigFrame.wpList_want _ _ _ _ _ _ _ ?hw94013 ?_
  case hw94013 => kernel_rfl
  intro K hK
  go_simp
  go_at_call 32
  refine (HE1.out _ _ _ _ U5.out).mono ?_
  rintro e w6 ⟨E, rfl, rfl⟩
  refine hK _ _ ?_
  clear hK K
  refine @BigFrame.wpList_want _ _ _ _ _ _ _ ?hw94015 ?_
  case hw94015 => kernel_rfl
  intro K hK
  go_simp
  refine hK _ _ ?_
  clear hK K
  refine @BigFrame.wpList_want _ _ _ _ _ _ _ ?hw94016 ?_
  case hw94016 => kernel_rfl
  intro K hK
  go_simp
  refine hK _ _ ?_
  clear hK K
  refine @BigFrame.wpList_want _ _ _ _ _ _ _ ?hw94017 ?_
  case hw94017 => kernel_rfl
  intro K hK
  go_simp
  refine hK _ _ ?_
  clear hK K
  refine @BigFrame.wpList_want _ _ _ _ _ _ _ ?hw94018 ?_
  case hw94018 => kernel_rfl
  intro K hK
  go_simp
  refine hK _ _ ?_
  clear hK K
  refine @BigFrame.wpList_want _ _ _ _ _ _ _ ?hw94019 ?_
  case hw94019 => kernel_rfl
  intro K hK
  go_simp
  refine hK _ _ ?_
  clear hK K
  go_upto_region 6 with fail
  have R5 := U5.out.box Rrb4.out Nrb.out (by decide)
  have K5 : Kept w.heap.size w.heap.size w w5 := by
    have k8 := U5.out.kp
    have hs3 := HS3.out
    exact K4.out.trans (k8.mono (by omega) (fun i hi _ => by omega))
  have HDR := Lib.hid (HDV.out w5 rb K5 HRB.out R5)
  clear R5 K5
  refine wp_region_lit ?_
  refine @BigFrame.wpList_want _ _ _ _ _ _ _ ?hw94021 ?_
  case hw94021 => kernel_rfl
  intro K hK
  go_simp
  refine hK _ _ ?_
  clear hK K
  refine @wpList_load_known _ _ _ _ _ _ _ ?hw94022 23 (.tmp 4) rfl (pb) (0) rfl (.agg kc) (HLD.out _ _ (U5.out.box Rpb4.out Npb.out (by decide))) ?_
  case hw94022 => kernel_rfl
  simp only [Act.put, List.setIfInBounds_toArray, List.set_cons_zero, List.set_cons_succ]
  refine @BigFrame.wpList_want _ _ _ _ _ _ _ ?hw94023 ?_
  case hw94023 => kernel_rfl
  intro K hK
  go_simp
  refine hK _ _ ?_
  clear hK K
  refine @BigFrame.wpList_want _ _ _ _ _ _ _ ?hw94020 ?_
  case hw94020 => kernel_rfl
  intro K hK
  go_simp
  go_at_call 28
  refine (HDR.out).mono ?_
  rintro e w7 ⟨rfl, r7, p7⟩
  have R7 := Lib.hid r7
  have P7 := Lib.hid p7
  clear r7 p7
  refine hK _ _ ?_
  clear hK K
  refine wpList_store_row rfl 23 _ _ rfl (rb) cu rfl rfl 23 zeros32 (R7.out) HIU.out HZU.out HAU.out ?_
  simp only [Act.put]
  have R9 := setRow_heap w7 rb zeros32 cu _ _ (R7.out)
  have k9 := P7.out
  generalize w7.setRow rb cu = w9 at R9 k9 ⊢
  go_wp2
  refine bodyPost_ret (results_cell_row rfl _ _ rb 23 cu (0, 0) _ rfl R9 Tryd.underlying23 rfl HIU.out) rfl ?_
  exact ⟨rfl, k9⟩

theorem app_nil11 (k : List UInt8) (hk : k.length = 32) (n : Nat) (hn : n < 64) (w : World) (tab : Tab w) : Calls Tryd.prog 12 #[.pointer none, .agg (bcells k).toArray, .int .i64 (n : Int)] w fun e w' => e = .returned (.agg (bcells (Ky.app k n)).toArray) ∧ Kept w.heap.size w.heap.size w w' := by
  refine app_any11 none k hk n hn w tab (Kept w.heap.size w.heap.size w) (fun x rb kx hrb rx => ?_)
  refine (pderive_nil k (Lib.hid hk) ⟨#[97, 112, 112]⟩ (str (Wm.enc n)) (Lib.hid (by decide)) (Lib.hid (by rw [str_size]; have := Wm.enc_length_le n; omega)) x).mono ?_
  rintro e w' ⟨rfl, k7⟩
  exact ⟨rfl, row_kept rx k7, kept_setRow10 (kx.onto k7) rb hrb _⟩

set_option maxRecDepth 100000 in
set_option maxHeartbeats 6400000 in
theorem refapp_calls11 (k : List UInt8) (hk : k.length = 32) (n : Nat) (hn : n < 64) (w : World) : Calls Tryd.prog 13 #[.agg (bcells k).toArray, .int .i64 (n : Int)] w fun e w' => e = .returned (.agg (bcells (Ky.app k n)).toArray) ∧ Kept w.heap.size w.heap.size w w' := by
  have HNU := Lib.hid (fun u => refnum n u (by omega))
  have HDV := Lib.hid (fun u => (show Calls Tryd.prog 29 #[.agg (bcells k).toArray, .string ⟨#[97, 112, 112]⟩, .string (str (Wm.enc n))] u fun e w' => e = .returned (.agg (bcells (Ky.app k n)).toArray) ∧ Kept u.heap.size u.heap.size u w' from by
    have := refderive_calls k (Lib.hid hk) ⟨#[97, 112, 112]⟩ (str (Wm.enc n)) (Lib.hid (by decide)) (Lib.hid (by rw [str_size]; have := Wm.enc_length_le n; omega)) u
    rw [show Mc.derive k (⟨#[97, 112, 112]⟩ : ByteArray).data.toList (str (Wm.enc n)).data.toList = Ky.app k n from rfl] at this
    exact this))
  have HLK := Lib.hid (fun (u : World) (b : Nat) (h : u.heap[b]? = some (.cells (bcells k).toArray 22 (0, 0))) => load_arr11 hk h)
  have HIU := Lib.hid (keyInfo22 (Ky.app_length k n))
  have HZU := Lib.hid (keySize11 (Ky.app_length k n))
  have HAU := Lib.hid (bcells_all (Ky.app k n))
  generalize str (Wm.enc n) = tx at HNU HDV
  generalize (bcells (Ky.app k n)).toArray = cu at HDV HIU HZU HAU ⊢
  generalize (bcells k).toArray = kc at HDV HLK ⊢
  clear hk hn
  go_enter Tryd.func13, Tryd.ntmps13
  go_upto_region 0 with fail
  refine wp_region_lit ?_
  refine @BigFrame.wpList_want _ _ _ _ _ _ _ ?hw94024 ?_
  case hw94024 => kernel_rfl
  intro K hK
  go_simp
  refine hK _ _ ?_
  clear hK K
  have kn : Kept w.heap.size w.heap.size w (w.alloc (.cells kc 22)) := (Kept.refl _ _ _).alloc (Nat.le_refl _) _
  have rpb := heap_new w (.cells kc 22)
  have Kw1 := kn
  generalize w.alloc (.cells kc 22) = w1 at kn rpb Kw1  ⊢
  obtain ⟨pb, hpb⟩ : ∃ n, n = w.heap.size := ⟨_, rfl⟩
  rw [← hpb] at rpb
  (try rw [← hpb])
  clear hpb kn
  refine @wpL_alloc _ _ _ _ _ _ _ _ ?hw94025 22 rfl _ (alloc_arr11 _) ?_
  case hw94025 => kernel_rfl
  simp only [Act.put, List.setIfInBounds_toArray, List.set_cons_zero, List.set_cons_succ]
  have kn : Kept w1.heap.size w1.heap.size w1 (w1.alloc (.cells zeros32 22)) := (Kept.refl _ _ _).alloc (Nat.le_refl _) _
  have rrb := heap_new w1 (.cells zeros32 22)
  replace rpb := row_kept rpb kn
  have Kw2 := Kw1.onto kn
  have HRB : Hid (w.heap.size ≤ w1.heap.size) := Lib.hid (Kw1.size)
  generalize w1.alloc (.cells zeros32 22) = w2 at kn rrb Kw2 rpb ⊢
  obtain ⟨rb, hrb⟩ : ∃ n, n = w1.heap.size := ⟨_, rfl⟩
  rw [← hrb] at rrb HRB
  (try rw [← hrb])
  clear hrb kn Kw1
  have Rpb := Lib.hid rpb
  clear rpb
  have Rrb := Lib.hid rrb
  clear rrb
  have KW := Lib.hid Kw2
  clear Kw2
  go_upto_region 1 with fail
  have HLA := Lib.hid (fun (x : World) (k : Kept w2.heap.size w2.heap.size w2 x) => HLK.out x pb (row_kept Rpb.out k))
  obtain ⟨wd, hwd⟩ : ∃ wd, wd = w2.drew := ⟨_, rfl⟩
  have KD : Kept w2.heap.size w2.heap.size w2 wd := by rw [hwd]; exact (Kept.refl _ _ _).drew
  refine wp_region_noPanic ?_
  refine wp_region_heldTo 4 (S := fun w' => Kept w2.heap.size w2.heap.size w2 w') (by kernel_rfl) (by rw [← hwd]; exact KD) (fun hH => ?_)
  rw [← hwd] at hH ⊢
  clear hwd
  refine heldTo_take (i := 0) 5 (.agg kc) rfl rfl (by kernel_rfl) (by kernel_rfl) (by kernel_rfl) (by kernel_rfl) (fun _ _ _ h => h) (yieldsIf_load_known (by kernel_rfl) 22 _ rfl (pb) (0) rfl (.agg kc) (HLA.out)) hH ?_
  simp only [List.setIfInBounds_toArray, List.set_cons_zero, List.set_cons_succ]
  refine heldTo_take_ex (i := 1) 6 rfl rfl (by kernel_rfl) (by kernel_rfl) (by kernel_rfl) (by kernel_rfl) (fun _ _ _ _ h => h) (by kernel_rfl) hH ?_
  apply Exists.intro
  apply And.intro
  · intro w9 h9
    go_simp
    first | done | rfl
  simp only [List.setIfInBounds_toArray, List.set_cons_zero, List.set_cons_succ]
  refine heldTo_one (i := 2) (by kernel_rfl) rfl (fun K hK => ?_)
  rw [if_pos (by rfl)]
  go_simp
  go_wp2_with (go_at_call 33; refine (HNU.out _).mono ?_; rintro e w5 ⟨rfl, k5⟩)
  have KS : Kept w2.heap.size w2.heap.size w2 w5 := KD.onto k5
  have K5 := KS
  refine hK.out _ _ KS (fun hH => ?_)
  clear hK K KS
  refine heldTo_one (i := 3) (by kernel_rfl) rfl (fun K hK => ?_)
  rw [if_pos (by rfl)]
  go_simp
  go_wp2_with (go_at_call 29; refine (HDV.out _).mono ?_; rintro e w8 ⟨rfl, k8⟩)
  have KS : Kept w2.heap.size w2.heap.size w2 w8 := K5.onto k8
  have K8 := KS
  have R9 := row_kept Rrb.out K8
  refine hK.out _ _ KS (fun hH => ?_)
  clear hK K KS
  refine heldTo_last (by kernel_rfl) rfl (fun K hK => ?_)
  rw [if_pos (by rfl)]
  refine wp_store_row_none11 22 _ _ rfl rfl rb cu rfl rfl 22 zeros32 R9 HIU.out HZU.out HAU.out ?_
  refine hK.out _ _ ?_
  clear hK K
  refine heldTo_done (by kernel_rfl) ?_ _
  refine NoPanic.normal ?_
  clear hH
  have R10 := setRow_heap w8 rb _ cu _ _ R9
  have k10 : Kept w.heap.size w.heap.size w (w8.setRow rb cu) := kept_setRow10 (KW.out.onto K8) rb HRB.out cu
  generalize w8.setRow rb cu = w10 at R10 k10 ⊢
  go_wp2
  refine bodyPost_ret (results_cell_row rfl _ _ rb 22 cu (0, 0) _ rfl R10 Tryd.underlying22 rfl HIU.out) rfl ?_
  exact ⟨rfl, k10⟩

end Go.Proofs.YtdfbmijbmlainaaDoor
