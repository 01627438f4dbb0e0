/-
  PrimMath; PrimOne: several texts in one.
-/
import Derived.Test.YtohichignjjleaaGI
import Derived.Test.YtohichignjjleaaGK
import Derived.Test.YtohichignjjleaaGA

namespace Go.Proofs.Ytohichignjjleaa

namespace Pm
def wPub : List UInt8 := [112, 117, 98]
def wMark : List UInt8 := [109, 97, 114, 107]
def wVer : List UInt8 := [118, 101, 114]
def wKem : List UInt8 := [107, 101, 109]
def wSign : List UInt8 := [115, 105, 103, 110]
def wStream : List UInt8 := [115, 116, 114, 101, 97, 109]
def wTag : List UInt8 := [116, 97, 103]
def pub (k : List UInt8) : List UInt8 := Sm.sum (wPub ++ k)
def mark (p : List UInt8) : List UInt8 := Sm.sum (wMark ++ p)
def ver (k : List UInt8) : List UInt8 := Sm.sum (wVer ++ k)
def kem (p o : List UInt8) : List UInt8 := Sm.sum (wKem ++ p ++ o)
def sign (v t : List UInt8) : List UInt8 := Mc.code v (wSign ++ t)
/-- Two rows put exclusively, as far as the shorter one goes. -/
def both (a b : List UInt8) : List UInt8 := List.zipWith (fun x y => x ^^^ y) a b
def under (k : List UInt8) : List UInt8 := Mc.derive k wStream []
def cross (k s : List UInt8) : List UInt8 := both s (Mc.stream (under k) s.length)
def tagKey (k : List UInt8) : List UInt8 := Mc.derive k wTag []
def tag (k about c : List UInt8) : List UInt8 := (Mc.derive (tagKey k) about c).take 16
def sealed (k about s : List UInt8) : List UInt8 := cross k s ++ tag k about (cross k s)
def body (s : List UInt8) : List UInt8 := s.take (s.length - 16)
def rest (s : List UInt8) : List UInt8 := s.drop (s.length - 16)
/-- What opening answers: the text, and the error's number. -/
def opened (k about s : List UInt8) : List UInt8 × Nat :=
  if s.length < 16 then ([], 2) else if 65552 < s.length then ([], 5) else if tag k about (body s) = rest s then (cross k (body s), 0) else ([], 6)
def wrapped (p o about s : List UInt8) : List UInt8 := o ++ sealed (kem p o) about s
def unwrapped (k about s : List UInt8) : List UInt8 × Nat :=
  if s.length < 48 then ([], 2) else opened (kem (pub k) (s.take 32)) about (s.drop 32)

theorem pub_length (k : List UInt8) : (pub k).length = 32 := sum_length _
theorem mark_length (k : List UInt8) : (mark k).length = 32 := sum_length _
theorem ver_length (k : List UInt8) : (ver k).length = 32 := sum_length _
theorem kem_length (p o : List UInt8) : (kem p o).length = 32 := sum_length _
theorem sign_length (v t : List UInt8) : (sign v t).length = 32 := Mc.code_length _ _
theorem under_length (k : List UInt8) : (under k).length = 32 := Mc.derive_length _ _ _
theorem tagKey_length (k : List UInt8) : (tagKey k).length = 32 := Mc.derive_length _ _ _
theorem both_length (a b : List UInt8) (h : a.length = b.length) : (both a b).length = a.length := by
  rw [both, List.length_zipWith, h, Nat.min_self]
theorem both_both : ∀ a b : List UInt8, a.length = b.length → both (both a b) b = a
  | [], [], _ => rfl
  | x :: a, y :: b, h => by
    have ih := both_both a b (by simpa using h)
    show (x ^^^ y ^^^ y) :: both (both a b) b = x :: a
    rw [ih, UInt8.xor_assoc, UInt8.xor_self, UInt8.xor_zero]
theorem cross_length (k s : List UInt8) : (cross k s).length = s.length := both_length _ _ (Mc.stream_length _ _).symm
theorem cross_cross (k s : List UInt8) : cross k (cross k s) = s := by
  have h : (cross k s).length = s.length := cross_length k s
  rw [cross, h]
  exact both_both _ _ (Mc.stream_length _ _).symm
theorem tag_length (k about c : List UInt8) : (tag k about c).length = 16 := by
  rw [tag, List.length_take, Mc.derive_length]
  rfl
theorem sealed_length (k about s : List UInt8) : (sealed k about s).length = s.length + 16 := by
  rw [sealed, List.length_append, cross_length, tag_length]
theorem body_rest (s : List UInt8) : body s ++ rest s = s := List.take_append_drop _ _
theorem body_sealed (k about s : List UInt8) : body (sealed k about s) = cross k s := by
  rw [body, sealed_length, Nat.add_sub_cancel, sealed, List.take_append_of_le_length (by rw [cross_length]; exact Nat.le_refl _)]
  exact List.take_of_length_le (by rw [cross_length]; exact Nat.le_refl _)
theorem rest_sealed (k about s : List UInt8) : rest (sealed k about s) = tag k about (cross k s) := by
  have h := body_rest (sealed k about s)
  rw [body_sealed, sealed] at h
  exact List.append_cancel_left h
/-- What was sealed is opened as it was. -/
theorem opened_sealed (k about s : List UInt8) (h : s.length ≤ 65536) : opened k about (sealed k about s) = (s, 0) := by
  have hl := sealed_length k about s
  rw [opened, if_neg (by omega), if_neg (by omega), body_sealed, rest_sealed, if_pos rfl, cross_cross]
/-- .. and what was wrapped by the secret key. -/
theorem unwrapped_wrapped (k o about s : List UInt8) (ho : o.length = 32) (h : s.length ≤ 65536) : unwrapped k about (wrapped (pub k) o about s) = (s, 0) := by
  have hl := sealed_length (kem (pub k) o) about s
  rw [unwrapped, wrapped, if_neg (by rw [List.length_append]; omega), List.take_append_of_le_length (by omega), List.take_of_length_le (by omega), List.drop_append_of_le_length (by omega), List.drop_of_length_le (by omega), List.nil_append, opened_sealed _ _ _ h]
end Pm
end Go.Proofs.Ytohichignjjleaa

namespace Go.Proofs.Ytohichignjjleaa
open Go.RowKit

/-- The digest of two texts in a block that has just been made. -/
theorem sum_two (a b : ByteArray) (w : World) (ha : a.size < 268435456) (hb : b.size < 268435456) : Calls Try.prog 43 #[.slice (some ⟨w.heap.size, 0, none⟩) 2 2] (w.alloc (.cells #[.string a, .string b] 9)) fun e w' => e = .returned (.agg (bcells (Sm.sum (a.data.toList ++ b.data.toList))).toArray) ∧ Kept (w.heap.size + 1) (w.heap.size + 1) (w.alloc (.cells #[.string a, .string b] 9)) w' := by
  have hj : joined [a, b] [a, b].length = a.data.toList ++ b.data.toList := by simp [joined]
  have ea : a.data.toList.length = a.size := by simp
  have eb : b.data.toList.length = b.size := by simp
  have := sum_calls [a, b] (some ⟨w.heap.size, 0, none⟩) 2 w.heap.size 0 (w.alloc (.cells #[.string a, .string b] 9)) (Lib.hid (by show 2 < _; decide)) (Lib.hid (by rw [hj, List.length_append, ea, eb]; omega)) (fun j hj => by
    refine ⟨rfl, by simp, ?_⟩
    have hj' : j = 0 ∨ j = 1 := by simp at hj; omega
    rcases hj' with rfl | rfl
    · exact World.cell?_alloc_new w _ _ 0
    · exact World.cell?_alloc_new w _ _ 1)
  rw [hj] at this
  have hsz : (w.alloc (.cells #[.string a, .string b] 9)).heap.size = w.heap.size + 1 := by simp
  rw [hsz] at this
  exact this
theorem sum_three (a b c : ByteArray) (w : World) (ha : a.size < 268435456) (hb : b.size < 268435456) (hc : c.size < 268435456) (wd : World) (hwd : wd = w.alloc (.cells #[.string a, .string b, .string c] 9) ∨ wd = (w.alloc (.cells #[.string a, .string b, .string c] 9)).drew) : Calls Try.prog 43 #[.slice (some ⟨w.heap.size, 0, none⟩) 3 3] wd fun e w' => e = .returned (.agg (bcells (Sm.sum (a.data.toList ++ b.data.toList ++ c.data.toList))).toArray) ∧ Kept (w.heap.size + 1) (w.heap.size + 1) wd w' := by
  have hj : joined [a, b, c] [a, b, c].length = a.data.toList ++ b.data.toList ++ c.data.toList := by simp [joined]
  have ea : a.data.toList.length = a.size := by simp
  have eb : b.data.toList.length = b.size := by simp
  have ec : c.data.toList.length = c.size := by simp
  have hheap : wd.heap = (w.alloc (.cells #[.string a, .string b, .string c] 9)).heap := by rcases hwd with rfl | rfl <;> rfl
  have hcell : ∀ p, wd.cell? p = (w.alloc (.cells #[.string a, .string b, .string c] 9)).cell? p := fun p => by rcases hwd with rfl | rfl <;> rfl
  have hsz : wd.heap.size = w.heap.size + 1 := by rw [hheap]; simp
  have := sum_calls [a, b, c] (some ⟨w.heap.size, 0, none⟩) 3 w.heap.size 0 wd (Lib.hid (by show 3 < _; decide)) (Lib.hid (by rw [hj, List.length_append, List.length_append, ea, eb, ec]; omega)) (fun j hj => by
    refine ⟨rfl, by omega, ?_⟩
    rw [hcell]
    have hj' : j = 0 ∨ j = 1 ∨ j = 2 := by simp at hj; omega
    rcases hj' with rfl | rfl | rfl
    · exact World.cell?_alloc_new w _ _ 0
    · exact World.cell?_alloc_new w _ _ 1
    · exact World.cell?_alloc_new w _ _ 2)
  rw [hj] at this
  rw [hsz] at this
  exact this

set_option maxRecDepth 100000 in
set_option maxHeartbeats 1600000 in
theorem text_calls (k : List UInt8) (hk : Hid (k.length = 32)) (w : World) : Calls Try.prog 42 #[.agg (bcells k).toArray] w fun e w' => e = .returned (.string (str k)) ∧ Kept w.heap.size w.heap.size w w' := by
  obtain ⟨sk, hsk⟩ : ∃ sk, sk = str k := ⟨_, rfl⟩
  rw [← hsk]
  have Hsk := Lib.hid hsk
  generalize hkc : (bcells k).toArray = kc
  have Hkc := Lib.hid hkc
  clear hkc hsk
  go_enter Try.func42, Try.ntmps42
  go_upto_region 1 with fail
  have hP : (w.alloc (.cells kc 25)).heap[w.heap.size]? = some (.cells kc 25 (0, 0)) := heap_new _ _
  have k1 : Kept w.heap.size w.heap.size w (w.alloc (.cells kc 25)) := (Kept.refl _ _ _).alloc (Nat.le_refl _) _
  generalize w.alloc (.cells kc 25) = w1 at hP k1 ⊢
  obtain ⟨wa, hwa⟩ : ∃ wa, wa = w.heap.size := ⟨_, rfl⟩
  rw [← hwa] at hP ⊢
  have cA : (convert 45 9 (.slice (some ⟨wa, 0, none⟩) 32 32)).run Try.prog w1 = .ok (.string sk) w1 := by
    rw [Hsk.out]
    exact conv_hash hk.out (by rw [Hkc.out]; exact hP)
  clear hP hwa
  go_wp2
  go_ret
  exact ⟨rfl, k1⟩

set_option maxRecDepth 100000 in
set_option maxHeartbeats 1600000 in
theorem mark_calls (k : List UInt8) (hk : Hid (k.length = 32)) (w : World) : Calls Try.prog 44 #[.agg (bcells k).toArray] w fun e w' => e = .returned (.agg (bcells (Pm.mark k)).toArray) ∧ Kept w.heap.size w.heap.size w w' := by
  generalize hkc : (bcells k).toArray = kc
  have Hkc := Lib.hid hkc
  clear hkc
  go_enter Try.func44, Try.ntmps44
  go_upto_region 1 with fail
  rw [zeros32_eq]
  have hP : ((w.alloc (.cells kc 26)).alloc (.cells zeros32 26)).heap[w.heap.size]? = some (.cells kc 26 (0, 0)) := heap_alloc2_old w _ _
  have hR : ((w.alloc (.cells kc 26)).alloc (.cells zeros32 26)).heap[w.heap.size + 1]? = some (.cells zeros32 26 (0, 0)) := heap_alloc2_last w _ _
  have k1 : Kept w.heap.size w.heap.size w ((w.alloc (.cells kc 26)).alloc (.cells zeros32 26)) := ((Kept.refl _ _ _).alloc (Nat.le_refl _) _).alloc (by simp) _
  have s1 : ((w.alloc (.cells kc 26)).alloc (.cells zeros32 26)).heap.size = w.heap.size + 2 := by simp
  generalize (w.alloc (.cells kc 26)).alloc (.cells zeros32 26) = w1 at hP hR k1 s1 ⊢
  obtain ⟨wa, hwa⟩ : ∃ wa, wa = w.heap.size := ⟨_, rfl⟩
  rw [← hwa] at hP hR k1 s1 ⊢
  have hrow : ∀ w', Kept w1.heap.size w1.heap.size w1 w' → w'.heap[wa + 1]? = some (.cells zeros32 26 (0, 0)) := fun w' kk => (kk.block (wa + 1) (by omega) (by omega)).trans hR
  have cA : (convert 45 9 (.slice (some ⟨wa, 0, none⟩) 32 32)).run Try.prog w1 = .ok (.string (str k)) w1 := conv_hash hk.out (by rw [Hkc.out]; exact hP)
  have hcode := sum_two ⟨#[109, 97, 114, 107]⟩ (str k) w1 (by decide) (by rw [str_size, hk.out]; decide)
  rw [show Sm.sum ((⟨#[109, 97, 114, 107]⟩ : ByteArray).data.toList ++ (str k).data.toList) = Pm.mark k from rfl] at hcode
  have hcs : (bcells (Pm.mark k)).toArray.size = 32 := by rw [List.size_toArray, bcells_length, Pm.mark_length]
  have hall := bcells_all (Pm.mark k)
  generalize hcu : (bcells (Pm.mark k)).toArray = cu at hcode hcs hall
  have hst : ∀ w', w'.heap[wa + 1]? = some (.cells zeros32 26 (0, 0)) → (storeCells ⟨wa + 1, 0, none⟩ cu.toList).run Try.prog w' = .ok () (w'.setRow (wa + 1) cu) := fun w' h => store_over w' (wa + 1) 26 zeros32 cu h (by rw [hcs]; rfl) hall
  have HST := Lib.hid hst
  have Hcs := Lib.hid hcs
  have Hcu := Lib.hid hcu
  have HROW := Lib.hid hrow
  have HK1 := Lib.hid k1
  have HS1 := Lib.hid s1
  have HWA := Lib.hid hwa
  clear hst hcs hcu hrow hall k1 s1 hwa
  generalize str k = sk at cA hcode
  have HCODE := Lib.hid hcode
  clear hcode hP hR
  go_wp2_with (go_at_call 43; refine HCODE.out.mono ?_; rintro e w8 ⟨rfl, k8⟩; have K8 : Kept w1.heap.size w1.heap.size w1 w8 := ((Kept.refl _ _ _).alloc (Nat.le_refl _) _).trans (k8.mono (Nat.le_succ _) (fun i hi _ => by omega)); have h8 := HST.out w8 (HROW.out w8 K8))
  have t2 := setRow_heap w8 (wa + 1) zeros32 cu _ _ (HROW.out w8 K8)
  have t1 : Kept w.heap.size w.heap.size w (w8.setRow (wa + 1) cu) := by
    have e1 := HWA.out
    have e2 := HS1.out
    refine Kept.trans (w2 := w8) ?_ ⟨rfl, rfl, rfl, by simp [World.setRow], fun k hk _ => setRow_other w8 (wa + 1) k cu (by omega)⟩
    rw [← e1]
    exact HK1.out.trans (K8.mono (by omega) (fun k hk _ => by omega))
  have hcu := Hcs.out
  refine bodyPost_ret (results_cell_row rfl _ _ (wa + 1) 26 cu (0, 0) _ rfl t2 Try.underlying26 rfl (by rw [shaInfo30, hcu])) rfl ?_
  exact ⟨by rw [Hcu.out], t1⟩

set_option maxRecDepth 100000 in
set_option maxHeartbeats 1600000 in
theorem verify_calls (k : List UInt8) (hk : Hid (k.length = 32)) (w : World) : Calls Try.prog 36 #[.agg (bcells k).toArray] w fun e w' => e = .returned (.agg (bcells (Pm.ver k)).toArray) ∧ Kept w.heap.size w.heap.size w w' := by
  generalize hkc : (bcells k).toArray = kc
  have Hkc := Lib.hid hkc
  clear hkc
  go_enter Try.func36, Try.ntmps36
  go_upto_region 1 with fail
  rw [zeros32_eq]
  have hP : ((w.alloc (.cells kc 26)).alloc (.cells zeros32 26)).heap[w.heap.size]? = some (.cells kc 26 (0, 0)) := heap_alloc2_old w _ _
  have hR : ((w.alloc (.cells kc 26)).alloc (.cells zeros32 26)).heap[w.heap.size + 1]? = some (.cells zeros32 26 (0, 0)) := heap_alloc2_last w _ _
  have k1 : Kept w.heap.size w.heap.size w ((w.alloc (.cells kc 26)).alloc (.cells zeros32 26)) := ((Kept.refl _ _ _).alloc (Nat.le_refl _) _).alloc (by simp) _
  have s1 : ((w.alloc (.cells kc 26)).alloc (.cells zeros32 26)).heap.size = w.heap.size + 2 := by simp
  generalize (w.alloc (.cells kc 26)).alloc (.cells zeros32 26) = w1 at hP hR k1 s1 ⊢
  obtain ⟨wa, hwa⟩ : ∃ wa, wa = w.heap.size := ⟨_, rfl⟩
  rw [← hwa] at hP hR k1 s1 ⊢
  have hrow : ∀ w', Kept w1.heap.size w1.heap.size w1 w' → w'.heap[wa + 1]? = some (.cells zeros32 26 (0, 0)) := fun w' kk => (kk.block (wa + 1) (by omega) (by omega)).trans hR
  have cA : (convert 45 9 (.slice (some ⟨wa, 0, none⟩) 32 32)).run Try.prog w1 = .ok (.string (str k)) w1 := conv_hash hk.out (by rw [Hkc.out]; exact hP)
  have hcode := sum_two ⟨#[118, 101, 114]⟩ (str k) w1 (by decide) (by rw [str_size, hk.out]; decide)
  rw [show Sm.sum ((⟨#[118, 101, 114]⟩ : ByteArray).data.toList ++ (str k).data.toList) = Pm.ver k from rfl] at hcode
  have hcs : (bcells (Pm.ver k)).toArray.size = 32 := by rw [List.size_toArray, bcells_length, Pm.ver_length]
  have hall := bcells_all (Pm.ver k)
  generalize hcu : (bcells (Pm.ver k)).toArray = cu at hcode hcs hall
  have hst : ∀ w', w'.heap[wa + 1]? = some (.cells zeros32 26 (0, 0)) → (storeCells ⟨wa + 1, 0, none⟩ cu.toList).run Try.prog w' = .ok () (w'.setRow (wa + 1) cu) := fun w' h => store_over w' (wa + 1) 26 zeros32 cu h (by rw [hcs]; rfl) hall
  have HST := Lib.hid hst
  have Hcs := Lib.hid hcs
  have Hcu := Lib.hid hcu
  have HROW := Lib.hid hrow
  have HK1 := Lib.hid k1
  have HS1 := Lib.hid s1
  have HWA := Lib.hid hwa
  clear hst hcs hcu hrow hall k1 s1 hwa
  generalize str k = sk at cA hcode
  have HCODE := Lib.hid hcode
  clear hcode hP hR
  go_wp2_with (go_at_call 43; refine HCODE.out.mono ?_; rintro e w8 ⟨rfl, k8⟩; have K8 : Kept w1.heap.size w1.heap.size w1 w8 := ((Kept.refl _ _ _).alloc (Nat.le_refl _) _).trans (k8.mono (Nat.le_succ _) (fun i hi _ => by omega)); have h8 := HST.out w8 (HROW.out w8 K8))
  have t2 := setRow_heap w8 (wa + 1) zeros32 cu _ _ (HROW.out w8 K8)
  have t1 : Kept w.heap.size w.heap.size w (w8.setRow (wa + 1) cu) := by
    have e1 := HWA.out
    have e2 := HS1.out
    refine Kept.trans (w2 := w8) ?_ ⟨rfl, rfl, rfl, by simp [World.setRow], fun k hk _ => setRow_other w8 (wa + 1) k cu (by omega)⟩
    rw [← e1]
    exact HK1.out.trans (K8.mono (by omega) (fun k hk _ => by omega))
  have hcu := Hcs.out
  refine bodyPost_ret (results_cell_row rfl _ _ (wa + 1) 26 cu (0, 0) _ rfl t2 Try.underlying26 rfl (by rw [shaInfo30, hcu])) rfl ?_
  exact ⟨by rw [Hcu.out], t1⟩

set_option maxRecDepth 100000 in
set_option maxHeartbeats 1600000 in
theorem refpub_calls (k : List UInt8) (hk : Hid (k.length = 32)) (w : World) : Calls Try.prog 15 #[.agg (bcells k).toArray] w fun e w' => e = .returned (.agg (bcells (Pm.pub k)).toArray) ∧ Kept w.heap.size w.heap.size w w' := by
  generalize hkc : (bcells k).toArray = kc
  have Hkc := Lib.hid hkc
  clear hkc
  go_enter Try.func15, Try.ntmps15
  go_upto_region 1 with fail
  rw [zeros32_eq]
  have hP : ((w.alloc (.cells kc 25)).alloc (.cells zeros32 25)).heap[w.heap.size]? = some (.cells kc 25 (0, 0)) := heap_alloc2_old w _ _
  have hR : ((w.alloc (.cells kc 25)).alloc (.cells zeros32 25)).heap[w.heap.size + 1]? = some (.cells zeros32 25 (0, 0)) := heap_alloc2_last w _ _
  have k1 : Kept w.heap.size w.heap.size w ((w.alloc (.cells kc 25)).alloc (.cells zeros32 25)) := ((Kept.refl _ _ _).alloc (Nat.le_refl _) _).alloc (by simp) _
  have s1 : ((w.alloc (.cells kc 25)).alloc (.cells zeros32 25)).heap.size = w.heap.size + 2 := by simp
  generalize (w.alloc (.cells kc 25)).alloc (.cells zeros32 25) = w1 at hP hR k1 s1 ⊢
  obtain ⟨wa, hwa⟩ : ∃ wa, wa = w.heap.size := ⟨_, rfl⟩
  rw [← hwa] at hP hR k1 s1 ⊢
  have hrow : ∀ w', Kept w1.heap.size w1.heap.size w1 w' → w'.heap[wa + 1]? = some (.cells zeros32 25 (0, 0)) := fun w' kk => (kk.block (wa + 1) (by omega) (by omega)).trans hR
  have htx : Calls Try.prog 42 #[.agg kc] w1 fun e w' => e = .returned (.string (str k)) ∧ Kept w1.heap.size w1.heap.size w1 w' := by
    rw [← Hkc.out]
    exact text_calls k hk w1
  have hq : (str k).size ≤ 100 := by rw [str_size, hk.out]; decide
  have hcode : ∀ w', Calls Try.prog 41 #[.string (⟨#[112, 117, 98]⟩ ++ str k)] w' fun e w'' => e = .returned (.agg (bcells (Pm.pub k)).toArray) ∧ Kept w'.heap.size w'.heap.size w' w'' := fun w' => by
    have := refsum_calls (⟨#[112, 117, 98]⟩ ++ str k) w' (by rw [ByteArray.size_append]; show 3 + _ ≤ _; omega)
    rw [ByteArray.data_append, Array.toList_append] at this
    exact this
  have hia : (Try.prog.info? 25).map (·.size) = some kc.size := by rw [macInfo24, ← Hkc.out, List.size_toArray, bcells_length, hk.out]
  have hcs : (bcells (Pm.pub k)).toArray.size = 32 := by rw [List.size_toArray, bcells_length, Pm.pub_length]
  have hall := bcells_all (Pm.pub k)
  generalize hcu : (bcells (Pm.pub k)).toArray = cu at hcode hcs hall
  have hst : ∀ w', w'.heap[wa + 1]? = some (.cells zeros32 25 (0, 0)) → (storeCells ⟨wa + 1, 0, none⟩ cu.toList).run Try.prog w' = .ok () (w'.setRow (wa + 1) cu) := fun w' h => store_over w' (wa + 1) 25 zeros32 cu h (by rw [hcs]; rfl) hall
  have HST := Lib.hid hst
  have Hcs := Lib.hid hcs
  have Hcu := Lib.hid hcu
  have HROW := Lib.hid hrow
  have HK1 := Lib.hid k1
  have HS1 := Lib.hid s1
  have HWA := Lib.hid hwa
  clear hst hcs hcu hrow hall k1 s1 hwa
  generalize str k = sk at htx hcode hq
  have HCODE := Lib.hid hcode
  have HTX := Lib.hid htx
  have HP := Lib.hid hP
  have HIA := Lib.hid hia
  clear hcode htx hP hR hia
  go_wp2_with (first
    | (with_reducible refine wpList_load_row rfl 25 _ rfl wa rfl 25 kc (0, 0) _ HP.out Try.underlying25 rfl HIA.out ?_)
    | (go_at_call 42; refine HTX.out.mono ?_; rintro e w7 ⟨rfl, k7⟩)
    | (go_at_call 41; refine (HCODE.out _).mono ?_; rintro e w8 ⟨rfl, k8⟩; have K8 : Kept w1.heap.size w1.heap.size w1 w8 := k7.trans (k8.mono k7.size (fun i hi _ => by have := k7.size; omega)); have h8 := HST.out w8 (HROW.out w8 K8)))
  have t2 := setRow_heap w8 (wa + 1) zeros32 cu _ _ (HROW.out w8 K8)
  have t1 : Kept w.heap.size w.heap.size w (w8.setRow (wa + 1) cu) := by
    have e1 := HWA.out
    have e2 := HS1.out
    refine Kept.trans (w2 := w8) ?_ ⟨rfl, rfl, rfl, by simp [World.setRow], fun k hk _ => setRow_other w8 (wa + 1) k cu (by omega)⟩
    rw [← e1]
    exact HK1.out.trans (K8.mono (by omega) (fun k hk _ => by omega))
  have hcu := Hcs.out
  refine bodyPost_ret (results_cell_row rfl _ _ (wa + 1) 25 cu (0, 0) _ rfl t2 Try.underlying25 rfl (by rw [macInfo24, hcu])) rfl ?_
  exact ⟨by rw [Hcu.out], t1⟩

set_option maxRecDepth 100000 in
set_option maxHeartbeats 1600000 in
theorem refmark_calls (k : List UInt8) (hk : Hid (k.length = 32)) (w : World) : Calls Try.prog 11 #[.agg (bcells k).toArray] w fun e w' => e = .returned (.agg (bcells (Pm.mark k)).toArray) ∧ Kept w.heap.size w.heap.size w w' := by
  generalize hkc : (bcells k).toArray = kc
  have Hkc := Lib.hid hkc
  clear hkc
  go_enter Try.func11, Try.ntmps11
  go_upto_region 1 with fail
  rw [zeros32_eq]
  have hP : ((w.alloc (.cells kc 25)).alloc (.cells zeros32 25)).heap[w.heap.size]? = some (.cells kc 25 (0, 0)) := heap_alloc2_old w _ _
  have hR : ((w.alloc (.cells kc 25)).alloc (.cells zeros32 25)).heap[w.heap.size + 1]? = some (.cells zeros32 25 (0, 0)) := heap_alloc2_last w _ _
  have k1 : Kept w.heap.size w.heap.size w ((w.alloc (.cells kc 25)).alloc (.cells zeros32 25)) := ((Kept.refl _ _ _).alloc (Nat.le_refl _) _).alloc (by simp) _
  have s1 : ((w.alloc (.cells kc 25)).alloc (.cells zeros32 25)).heap.size = w.heap.size + 2 := by simp
  generalize (w.alloc (.cells kc 25)).alloc (.cells zeros32 25) = w1 at hP hR k1 s1 ⊢
  obtain ⟨wa, hwa⟩ : ∃ wa, wa = w.heap.size := ⟨_, rfl⟩
  rw [← hwa] at hP hR k1 s1 ⊢
  have hrow : ∀ w', Kept w1.heap.size w1.heap.size w1 w' → w'.heap[wa + 1]? = some (.cells zeros32 25 (0, 0)) := fun w' kk => (kk.block (wa + 1) (by omega) (by omega)).trans hR
  have htx : Calls Try.prog 42 #[.agg kc] w1 fun e w' => e = .returned (.string (str k)) ∧ Kept w1.heap.size w1.heap.size w1 w' := by
    rw [← Hkc.out]
    exact text_calls k hk w1
  have hq : (str k).size ≤ 100 := by rw [str_size, hk.out]; decide
  have hcode : ∀ w', Calls Try.prog 41 #[.string (⟨#[109, 97, 114, 107]⟩ ++ str k)] w' fun e w'' => e = .returned (.agg (bcells (Pm.mark k)).toArray) ∧ Kept w'.heap.size w'.heap.size w' w'' := fun w' => by
    have := refsum_calls (⟨#[109, 97, 114, 107]⟩ ++ str k) w' (by rw [ByteArray.size_append]; show 4 + _ ≤ _; omega)
    rw [ByteArray.data_append, Array.toList_append] at this
    exact this
  have hia : (Try.prog.info? 25).map (·.size) = some kc.size := by rw [macInfo24, ← Hkc.out, List.size_toArray, bcells_length, hk.out]
  have hcs : (bcells (Pm.mark k)).toArray.size = 32 := by rw [List.size_toArray, bcells_length, Pm.mark_length]
  have hall := bcells_all (Pm.mark k)
  generalize hcu : (bcells (Pm.mark k)).toArray = cu at hcode hcs hall
  have hst : ∀ w', w'.heap[wa + 1]? = some (.cells zeros32 25 (0, 0)) → (storeCells ⟨wa + 1, 0, none⟩ cu.toList).run Try.prog w' = .ok () (w'.setRow (wa + 1) cu) := fun w' h => store_over w' (wa + 1) 25 zeros32 cu h (by rw [hcs]; rfl) hall
  have HST := Lib.hid hst
  have Hcs := Lib.hid hcs
  have Hcu := Lib.hid hcu
  have HROW := Lib.hid hrow
  have HK1 := Lib.hid k1
  have HS1 := Lib.hid s1
  have HWA := Lib.hid hwa
  clear hst hcs hcu hrow hall k1 s1 hwa
  generalize str k = sk at htx hcode hq
  have HCODE := Lib.hid hcode
  have HTX := Lib.hid htx
  have HP := Lib.hid hP
  have HIA := Lib.hid hia
  clear hcode htx hP hR hia
  go_wp2_with (first
    | (with_reducible refine wpList_load_row rfl 25 _ rfl wa rfl 25 kc (0, 0) _ HP.out Try.underlying25 rfl HIA.out ?_)
    | (go_at_call 42; refine HTX.out.mono ?_; rintro e w7 ⟨rfl, k7⟩)
    | (go_at_call 41; refine (HCODE.out _).mono ?_; rintro e w8 ⟨rfl, k8⟩; have K8 : Kept w1.heap.size w1.heap.size w1 w8 := k7.trans (k8.mono k7.size (fun i hi _ => by have := k7.size; omega)); have h8 := HST.out w8 (HROW.out w8 K8)))
  have t2 := setRow_heap w8 (wa + 1) zeros32 cu _ _ (HROW.out w8 K8)
  have t1 : Kept w.heap.size w.heap.size w (w8.setRow (wa + 1) cu) := by
    have e1 := HWA.out
    have e2 := HS1.out
    refine Kept.trans (w2 := w8) ?_ ⟨rfl, rfl, rfl, by simp [World.setRow], fun k hk _ => setRow_other w8 (wa + 1) k cu (by omega)⟩
    rw [← e1]
    exact HK1.out.trans (K8.mono (by omega) (fun k hk _ => by omega))
  have hcu := Hcs.out
  refine bodyPost_ret (results_cell_row rfl _ _ (wa + 1) 25 cu (0, 0) _ rfl t2 Try.underlying25 rfl (by rw [macInfo24, hcu])) rfl ?_
  exact ⟨by rw [Hcu.out], t1⟩

set_option maxRecDepth 100000 in
set_option maxHeartbeats 1600000 in
theorem refshared_calls (k : List UInt8) (hk : Hid (k.length = 32)) (c : List UInt8) (hc : c.length ≤ 100) (w : World) : Calls Try.prog 17 #[.agg (bcells k).toArray, .string (str c)] w fun e w' => e = .returned (.agg (bcells (Pm.kem k c)).toArray) ∧ Kept w.heap.size w.heap.size w w' := by
  generalize hkc : (bcells k).toArray = kc
  have Hkc := Lib.hid hkc
  clear hkc
  go_enter Try.func17, Try.ntmps17
  go_upto_region 1 with fail
  rw [zeros32_eq]
  have hP : ((w.alloc (.cells kc 25)).alloc (.cells zeros32 25)).heap[w.heap.size]? = some (.cells kc 25 (0, 0)) := heap_alloc2_old w _ _
  have hR : ((w.alloc (.cells kc 25)).alloc (.cells zeros32 25)).heap[w.heap.size + 1]? = some (.cells zeros32 25 (0, 0)) := heap_alloc2_last w _ _
  have k1 : Kept w.heap.size w.heap.size w ((w.alloc (.cells kc 25)).alloc (.cells zeros32 25)) := ((Kept.refl _ _ _).alloc (Nat.le_refl _) _).alloc (by simp) _
  have s1 : ((w.alloc (.cells kc 25)).alloc (.cells zeros32 25)).heap.size = w.heap.size + 2 := by simp
  generalize (w.alloc (.cells kc 25)).alloc (.cells zeros32 25) = w1 at hP hR k1 s1 ⊢
  obtain ⟨wa, hwa⟩ : ∃ wa, wa = w.heap.size := ⟨_, rfl⟩
  rw [← hwa] at hP hR k1 s1 ⊢
  have hrow : ∀ w', Kept w1.heap.size w1.heap.size w1 w' → w'.heap[wa + 1]? = some (.cells zeros32 25 (0, 0)) := fun w' kk => (kk.block (wa + 1) (by omega) (by omega)).trans hR
  have htx : Calls Try.prog 42 #[.agg kc] w1 fun e w' => e = .returned (.string (str k)) ∧ Kept w1.heap.size w1.heap.size w1 w' := by
    rw [← Hkc.out]
    exact text_calls k hk w1
  have hq : (str k).size ≤ 100 := by rw [str_size, hk.out]; decide
  have hq2 : (str c).size ≤ 100 := by rw [str_size]; exact hc
  have hcode : ∀ w', Calls Try.prog 41 #[.string (⟨#[107, 101, 109]⟩ ++ str k ++ str c)] w' fun e w'' => e = .returned (.agg (bcells (Pm.kem k c)).toArray) ∧ Kept w'.heap.size w'.heap.size w' w'' := fun w' => by
    have := refsum_calls (⟨#[107, 101, 109]⟩ ++ str k ++ str c) w' (by rw [ByteArray.size_append, ByteArray.size_append]; show 3 + _ + _ ≤ _; omega)
    rw [ByteArray.data_append, ByteArray.data_append, Array.toList_append, Array.toList_append] at this
    exact this
  have hia : (Try.prog.info? 25).map (·.size) = some kc.size := by rw [macInfo24, ← Hkc.out, List.size_toArray, bcells_length, hk.out]
  have hcs : (bcells (Pm.kem k c)).toArray.size = 32 := by rw [List.size_toArray, bcells_length, Pm.kem_length]
  have hall := bcells_all (Pm.kem k c)
  generalize hcu : (bcells (Pm.kem k c)).toArray = cu at hcode hcs hall
  have hst : ∀ w', w'.heap[wa + 1]? = some (.cells zeros32 25 (0, 0)) → (storeCells ⟨wa + 1, 0, none⟩ cu.toList).run Try.prog w' = .ok () (w'.setRow (wa + 1) cu) := fun w' h => store_over w' (wa + 1) 25 zeros32 cu h (by rw [hcs]; rfl) hall
  have HST := Lib.hid hst
  have Hcs := Lib.hid hcs
  have Hcu := Lib.hid hcu
  have HROW := Lib.hid hrow
  have HK1 := Lib.hid k1
  have HS1 := Lib.hid s1
  have HWA := Lib.hid hwa
  clear hst hcs hcu hrow hall k1 s1 hwa
  generalize str k = sk at htx hcode hq
  generalize str c = sc at hcode hq2 ⊢
  have HCODE := Lib.hid hcode
  have HTX := Lib.hid htx
  have HP := Lib.hid hP
  have HIA := Lib.hid hia
  clear hcode htx hP hR hia
  go_wp2_with (first
    | (with_reducible refine wpList_load_row rfl 25 _ rfl wa rfl 25 kc (0, 0) _ HP.out Try.underlying25 rfl HIA.out ?_)
    | (go_at_call 42; refine HTX.out.mono ?_; rintro e w7 ⟨rfl, k7⟩)
    | (go_at_call 41; refine (HCODE.out _).mono ?_; rintro e w8 ⟨rfl, k8⟩; have K8 : Kept w1.heap.size w1.heap.size w1 w8 := k7.trans (k8.mono k7.size (fun i hi _ => by have := k7.size; omega)); have h8 := HST.out w8 (HROW.out w8 K8)))
  have t2 := setRow_heap w8 (wa + 1) zeros32 cu _ _ (HROW.out w8 K8)
  have t1 : Kept w.heap.size w.heap.size w (w8.setRow (wa + 1) cu) := by
    have e1 := HWA.out
    have e2 := HS1.out
    refine Kept.trans (w2 := w8) ?_ ⟨rfl, rfl, rfl, by simp [World.setRow], fun k hk _ => setRow_other w8 (wa + 1) k cu (by omega)⟩
    rw [← e1]
    exact HK1.out.trans (K8.mono (by omega) (fun k hk _ => by omega))
  have hcu := Hcs.out
  refine bodyPost_ret (results_cell_row rfl _ _ (wa + 1) 25 cu (0, 0) _ rfl t2 Try.underlying25 rfl (by rw [macInfo24, hcu])) rfl ?_
  exact ⟨by rw [Hcu.out], t1⟩

set_option maxRecDepth 100000 in
set_option maxHeartbeats 1600000 in
theorem signature_calls (k : List UInt8) (hk : Hid (k.length = 32)) (t : ByteArray) (ht : t.size < 268435456) (w : World) : Calls Try.prog 64 #[.agg (bcells k).toArray, .string t] w fun e w' => e = .returned (.agg (bcells (Pm.sign k t.data.toList)).toArray) ∧ Kept w.heap.size w.heap.size w w' := by
  generalize hkc : (bcells k).toArray = kc
  have Hkc := Lib.hid hkc
  clear hkc
  go_enter Try.func64, Try.ntmps64
  go_upto_region 1 with fail
  rw [zeros32_eq]
  have hP : ((w.alloc (.cells kc 26)).alloc (.cells zeros32 26)).heap[w.heap.size]? = some (.cells kc 26 (0, 0)) := heap_alloc2_old w _ _
  have hR : ((w.alloc (.cells kc 26)).alloc (.cells zeros32 26)).heap[w.heap.size + 1]? = some (.cells zeros32 26 (0, 0)) := heap_alloc2_last w _ _
  have k1 : Kept w.heap.size w.heap.size w ((w.alloc (.cells kc 26)).alloc (.cells zeros32 26)) := ((Kept.refl _ _ _).alloc (Nat.le_refl _) _).alloc (by simp) _
  have s1 : ((w.alloc (.cells kc 26)).alloc (.cells zeros32 26)).heap.size = w.heap.size + 2 := by simp
  generalize (w.alloc (.cells kc 26)).alloc (.cells zeros32 26) = w1 at hP hR k1 s1 ⊢
  obtain ⟨wa, hwa⟩ : ∃ wa, wa = w.heap.size := ⟨_, rfl⟩
  rw [← hwa] at hP hR k1 s1 ⊢
  have hrow : ∀ w', Kept w1.heap.size w1.heap.size w1 w' → w'.heap[wa + 1]? = some (.cells zeros32 26 (0, 0)) := fun w' kk => (kk.block (wa + 1) (by omega) (by omega)).trans hR
  have cA : (convert 45 9 (.slice (some ⟨wa, 0, none⟩) 32 32)).run Try.prog w1 = .ok (.string (str k)) w1 := conv_hash hk.out (by rw [Hkc.out]; exact hP)
  have hcode : Calls Try.prog 65 #[.string (str k), .slice (some ⟨w1.heap.size, 0, none⟩) 2 2] (w1.alloc (.cells #[.string ⟨#[115, 105, 103, 110]⟩, .string t] 9)) fun e w' => e = .returned (.agg (bcells (Pm.sign k t.data.toList)).toArray) ∧ Kept (w1.heap.size + 1) (w1.heap.size + 1) (w1.alloc (.cells #[.string ⟨#[115, 105, 103, 110]⟩, .string t] 9)) w' := by
    have hj : joined [⟨#[115, 105, 103, 110]⟩, t] [(⟨#[115, 105, 103, 110]⟩ : ByteArray), t].length = Pm.wSign ++ t.data.toList := by simp [joined, Pm.wSign]
    have et : t.data.toList.length = t.size := by simp
    have := code_calls (str k) (Lib.hid (by rw [str_size, hk.out]; decide)) [⟨#[115, 105, 103, 110]⟩, t] (some ⟨w1.heap.size, 0, none⟩) 2 w1.heap.size 0 (w1.alloc (.cells #[.string ⟨#[115, 105, 103, 110]⟩, .string t] 9)) (Lib.hid (by show 2 < _; decide)) (Lib.hid (by rw [hj, List.length_append, et]; show 4 + _ < _; omega)) (Lib.hid fun h => by cases h) (fun j hj => by
      refine ⟨rfl, by simp, ?_⟩
      have hj' : j = 0 ∨ j = 1 := by simp at hj; omega
      rcases hj' with rfl | rfl
      · exact World.cell?_alloc_new w1 _ _ 0
      · exact World.cell?_alloc_new w1 _ _ 1)
    rw [hj, str_data] at this
    have hsz : (w1.alloc (.cells #[.string ⟨#[115, 105, 103, 110]⟩, .string t] 9)).heap.size = w1.heap.size + 1 := by simp
    rw [hsz] at this
    exact this
  have hcs : (bcells (Pm.sign k t.data.toList)).toArray.size = 32 := by rw [List.size_toArray, bcells_length, Pm.sign_length]
  have hall := bcells_all (Pm.sign k t.data.toList)
  generalize hcu : (bcells (Pm.sign k t.data.toList)).toArray = cu at hcode hcs hall
  have hst : ∀ w', w'.heap[wa + 1]? = some (.cells zeros32 26 (0, 0)) → (storeCells ⟨wa + 1, 0, none⟩ cu.toList).run Try.prog w' = .ok () (w'.setRow (wa + 1) cu) := fun w' h => store_over w' (wa + 1) 26 zeros32 cu h (by rw [hcs]; rfl) hall
  have HST := Lib.hid hst
  have Hcs := Lib.hid hcs
  have Hcu := Lib.hid hcu
  have HROW := Lib.hid hrow
  have HK1 := Lib.hid k1
  have HS1 := Lib.hid s1
  have HWA := Lib.hid hwa
  clear hst hcs hcu hrow hall k1 s1 hwa
  generalize str k = sk at cA hcode
  have HCODE := Lib.hid hcode
  clear hcode hP hR
  go_wp2_with (go_at_call 65; refine HCODE.out.mono ?_; rintro e w8 ⟨rfl, k8⟩; have K8 : Kept w1.heap.size w1.heap.size w1 w8 := ((Kept.refl _ _ _).alloc (Nat.le_refl _) _).trans (k8.mono (Nat.le_succ _) (fun i hi _ => by omega)); have h8 := HST.out w8 (HROW.out w8 K8))
  have t2 := setRow_heap w8 (wa + 1) zeros32 cu _ _ (HROW.out w8 K8)
  have t1 : Kept w.heap.size w.heap.size w (w8.setRow (wa + 1) cu) := by
    have e1 := HWA.out
    have e2 := HS1.out
    refine Kept.trans (w2 := w8) ?_ ⟨rfl, rfl, rfl, by simp [World.setRow], fun k hk _ => setRow_other w8 (wa + 1) k cu (by omega)⟩
    rw [← e1]
    exact HK1.out.trans (K8.mono (by omega) (fun k hk _ => by omega))
  have hcu := Hcs.out
  refine bodyPost_ret (results_cell_row rfl _ _ (wa + 1) 26 cu (0, 0) _ rfl t2 Try.underlying26 rfl (by rw [shaInfo30, hcu])) rfl ?_
  exact ⟨by rw [Hcu.out], t1⟩

set_option maxRecDepth 100000 in
set_option maxHeartbeats 1600000 in
theorem sign_calls (k : List UInt8) (hk : Hid (k.length = 32)) (t : ByteArray) (ht : t.size < 268435456) (w : World) : Calls Try.prog 37 #[.agg (bcells k).toArray, .string t] w fun e w' => e = .returned (.agg (bcells (Pm.sign (Pm.ver k) t.data.toList)).toArray) ∧ Kept w.heap.size w.heap.size w w' := by
  generalize hkc : (bcells k).toArray = kc
  have Hkc := Lib.hid hkc
  clear hkc
  go_enter Try.func37, Try.ntmps37
  go_upto_region 1 with fail
  rw [zeros32_eq]
  have hP : ((w.alloc (.cells kc 26)).alloc (.cells zeros32 26)).heap[w.heap.size]? = some (.cells kc 26 (0, 0)) := heap_alloc2_old w _ _
  have hR : ((w.alloc (.cells kc 26)).alloc (.cells zeros32 26)).heap[w.heap.size + 1]? = some (.cells zeros32 26 (0, 0)) := heap_alloc2_last w _ _
  have k1 : Kept w.heap.size w.heap.size w ((w.alloc (.cells kc 26)).alloc (.cells zeros32 26)) := ((Kept.refl _ _ _).alloc (Nat.le_refl _) _).alloc (by simp) _
  have s1 : ((w.alloc (.cells kc 26)).alloc (.cells zeros32 26)).heap.size = w.heap.size + 2 := by simp
  generalize (w.alloc (.cells kc 26)).alloc (.cells zeros32 26) = w1 at hP hR k1 s1 ⊢
  obtain ⟨wa, hwa⟩ : ∃ wa, wa = w.heap.size := ⟨_, rfl⟩
  rw [← hwa] at hP hR k1 s1 ⊢
  have hrow : ∀ w', Kept w1.heap.size w1.heap.size w1 w' → w'.heap[wa + 1]? = some (.cells zeros32 26 (0, 0)) := fun w' kk => (kk.block (wa + 1) (by omega) (by omega)).trans hR
  have hve : Calls Try.prog 36 #[.agg kc] w1 fun e w' => e = .returned (.agg (bcells (Pm.ver k)).toArray) ∧ Kept w1.heap.size w1.heap.size w1 w' := by
    rw [← Hkc.out]
    exact verify_calls k hk w1
  have hcode : ∀ w', Calls Try.prog 64 #[.agg (bcells (Pm.ver k)).toArray, .string t] w' fun e w'' => e = .returned (.agg (bcells (Pm.sign (Pm.ver k) t.data.toList)).toArray) ∧ Kept w'.heap.size w'.heap.size w' w'' := fun w' => signature_calls (Pm.ver k) (Lib.hid (Pm.ver_length k)) t ht w'
  have hia : (Try.prog.info? 26).map (·.size) = some kc.size := by rw [shaInfo30, ← Hkc.out, List.size_toArray, bcells_length, hk.out]
  have hcs : (bcells (Pm.sign (Pm.ver k) t.data.toList)).toArray.size = 32 := by rw [List.size_toArray, bcells_length, Pm.sign_length]
  have hall := bcells_all (Pm.sign (Pm.ver k) t.data.toList)
  generalize hcu : (bcells (Pm.sign (Pm.ver k) t.data.toList)).toArray = cu at hcode hcs hall
  have hst : ∀ w', w'.heap[wa + 1]? = some (.cells zeros32 26 (0, 0)) → (storeCells ⟨wa + 1, 0, none⟩ cu.toList).run Try.prog w' = .ok () (w'.setRow (wa + 1) cu) := fun w' h => store_over w' (wa + 1) 26 zeros32 cu h (by rw [hcs]; rfl) hall
  have HST := Lib.hid hst
  have Hcs := Lib.hid hcs
  have Hcu := Lib.hid hcu
  have HROW := Lib.hid hrow
  have HK1 := Lib.hid k1
  have HS1 := Lib.hid s1
  have HWA := Lib.hid hwa
  clear hst hcs hcu hrow hall k1 s1 hwa
  generalize (bcells (Pm.ver k)).toArray = cv at hve hcode
  have HCODE := Lib.hid hcode
  have HVE := Lib.hid hve
  have HP := Lib.hid hP
  have HIA := Lib.hid hia
  clear hcode hve hP hR hia
  go_wp2_with (first
    | (with_reducible refine wpList_load_row rfl 26 _ rfl wa rfl 26 kc (0, 0) _ HP.out Try.underlying26 rfl HIA.out ?_)
    | (go_at_call 36; refine HVE.out.mono ?_; rintro e w7 ⟨rfl, k7⟩)
    | (go_at_call 64; refine (HCODE.out _).mono ?_; rintro e w8 ⟨rfl, k8⟩; have K8 : Kept w1.heap.size w1.heap.size w1 w8 := k7.trans (k8.mono k7.size (fun i hi _ => by have := k7.size; omega)); have h8 := HST.out w8 (HROW.out w8 K8)))
  have t2 := setRow_heap w8 (wa + 1) zeros32 cu _ _ (HROW.out w8 K8)
  have t1 : Kept w.heap.size w.heap.size w (w8.setRow (wa + 1) cu) := by
    have e1 := HWA.out
    have e2 := HS1.out
    refine Kept.trans (w2 := w8) ?_ ⟨rfl, rfl, rfl, by simp [World.setRow], fun k hk _ => setRow_other w8 (wa + 1) k cu (by omega)⟩
    rw [← e1]
    exact HK1.out.trans (K8.mono (by omega) (fun k hk _ => by omega))
  have hcu := Hcs.out
  refine bodyPost_ret (results_cell_row rfl _ _ (wa + 1) 26 cu (0, 0) _ rfl t2 Try.underlying26 rfl (by rw [shaInfo30, hcu])) rfl ?_
  exact ⟨by rw [Hcu.out], t1⟩

set_option maxRecDepth 100000 in
set_option maxHeartbeats 1600000 in
theorem shared_calls (a k : List UInt8) (ha : Hid (a.length = 32)) (hk : Hid (k.length = 32)) (w : World) : Calls Try.prog 47 #[.agg (bcells a).toArray, .agg (bcells k).toArray] w fun e w' => e = .returned (.agg (bcells (Pm.kem a k)).toArray) ∧ Kept w.heap.size w.heap.size w w' := by
  generalize hac : (bcells a).toArray = ac
  have Hac := Lib.hid hac
  generalize hkc : (bcells k).toArray = kc
  have Hkc := Lib.hid hkc
  clear hac hkc
  go_enter Try.func47, Try.ntmps47
  go_upto_region 1 with fail
  rw [zeros32_eq]
  obtain ⟨w1, hw1⟩ : ∃ w1, w1 = ((w.alloc (.cells ac 26)).alloc (.cells kc 26)).alloc (.cells zeros32 26) := ⟨_, rfl⟩
  have hQ : w1.heap[w.heap.size]? = some (.cells ac 26 (0, 0)) := by rw [hw1, Below.heap_alloc _ _ _ (by simp; omega)]; exact heap_alloc2_old w _ _
  have hP : w1.heap[w.heap.size + 1]? = some (.cells kc 26 (0, 0)) := by rw [hw1, Below.heap_alloc _ _ _ (by simp)]; exact heap_alloc2_last w _ _
  have hR : w1.heap[w.heap.size + 2]? = some (.cells zeros32 26 (0, 0)) := by
    have := heap_new ((w.alloc (.cells ac 26)).alloc (.cells kc 26)) (.cells zeros32 26)
    rw [hw1]
    simpa using this
  have k1 : Kept w.heap.size w.heap.size w w1 := by rw [hw1]; exact (((Kept.refl _ _ _).alloc (Nat.le_refl _) _).alloc (by simp) _).alloc (by simp; omega) _
  have s1 : w1.heap.size = w.heap.size + 3 := by rw [hw1]; simp
  rw [← hw1]
  clear hw1
  obtain ⟨wa, hwa⟩ : ∃ wa, wa = w.heap.size := ⟨_, rfl⟩
  rw [← hwa] at hP hQ hR k1 s1 ⊢
  have KD : Kept w1.heap.size w1.heap.size w1 w1.drew := (Kept.refl _ _ _).drew
  have cA : (convert 45 9 (.slice (some ⟨wa, 0, none⟩) 32 32)).run Try.prog w1.drew = .ok (.string (str a)) w1.drew := conv_hash ha.out (by rw [Hac.out]; exact hQ)
  have cB : (convert 45 9 (.slice (some ⟨wa + 1, 0, none⟩) 32 32)).run Try.prog w1.drew = .ok (.string (str k)) w1.drew := conv_hash hk.out (by rw [Hkc.out]; exact hP)
  have hrow : ∀ w', Kept w1.heap.size w1.heap.size w1 w' → w'.heap[wa + 1 + 1]? = some (.cells zeros32 26 (0, 0)) := fun w' kk => (kk.block (wa + 1 + 1) (by omega) (by omega)).trans hR
  have hcode := sum_three ⟨#[107, 101, 109]⟩ (str a) (str k) w1.drew (by decide) (by rw [str_size, ha.out]; decide) (by rw [str_size, hk.out]; decide) _ (.inl rfl)
  rw [show Sm.sum ((⟨#[107, 101, 109]⟩ : ByteArray).data.toList ++ (str a).data.toList ++ (str k).data.toList) = Pm.kem a k from rfl] at hcode
  have hcs : (bcells (Pm.kem a k)).toArray.size = 32 := by rw [List.size_toArray, bcells_length, Pm.kem_length]
  have hall := bcells_all (Pm.kem a k)
  generalize hcu : (bcells (Pm.kem a k)).toArray = cu at hcode hcs hall
  have hst : ∀ w', w'.heap[wa + 1 + 1]? = some (.cells zeros32 26 (0, 0)) → (storeCells ⟨wa + 1 + 1, 0, none⟩ cu.toList).run Try.prog w' = .ok () (w'.setRow (wa + 1 + 1) cu) := fun w' h => store_over w' (wa + 1 + 1) 26 zeros32 cu h (by rw [hcs]; rfl) hall
  have HST := Lib.hid hst
  have Hcs := Lib.hid hcs
  have Hcu := Lib.hid hcu
  have HROW := Lib.hid hrow
  have HK1 := Lib.hid k1
  have HS1 := Lib.hid s1
  have HWA := Lib.hid hwa
  clear hst hcs hcu hrow hall k1 s1 hwa
  generalize str k = sk at cB hcode
  generalize str a = sa at cA hcode
  have HCODE := Lib.hid hcode
  clear hcode hP hQ hR
  go_region_with (go_at_call 43; refine HCODE.out.mono ?_; rintro e w8 ⟨rfl, k8⟩; have K8 : Kept w1.heap.size w1.heap.size w1 w8 := (KD.alloc (Nat.le_refl _) _).trans (k8.mono (Nat.le_succ _) (fun i hi _ => Nat.ne_of_lt (Nat.lt_succ_of_lt hi))); have h8 := HST.out w8 (HROW.out w8 K8))
  all_goals
    go_wp2_with fail
    have t2 := setRow_heap w8 (wa + 1 + 1) zeros32 cu _ _ (HROW.out w8 K8)
    have t1 : Kept w.heap.size w.heap.size w (w8.setRow (wa + 1 + 1) cu) := by
      have e1 := HWA.out
      have e2 := HS1.out
      refine Kept.trans (w2 := w8) ?_ ⟨rfl, rfl, rfl, by simp [World.setRow], fun k hk _ => setRow_other w8 (wa + 1 + 1) k cu (by omega)⟩
      rw [← e1]
      exact HK1.out.trans (K8.mono (by omega) (fun k hk _ => by omega))
    have hcu := Hcs.out
    refine bodyPost_ret (results_cell_row rfl _ _ (wa + 1 + 1) 26 cu (0, 0) _ rfl t2 Try.underlying26 rfl (by rw [shaInfo30, hcu])) rfl ?_
    exact ⟨by rw [Hcu.out], t1⟩

set_option maxRecDepth 100000 in
set_option maxHeartbeats 1600000 in
theorem check_calls (v c : List UInt8) (hv : Hid (v.length = 32)) (hc : Hid (c.length = 32)) (t : ByteArray) (ht : t.size < 268435456) (w : World) : Calls Try.prog 35 #[.agg (bcells v).toArray, .string t, .agg (bcells c).toArray] w fun e w' => e = .returned (.bool (c == Pm.sign v t.data.toList)) ∧ Kept w.heap.size w.heap.size w w' := by
  have heq := fun w => hash_equalIn w c (Pm.sign v t.data.toList) hc.out (Pm.sign_length _ _)
  have hcode : ∀ w', Calls Try.prog 64 #[.agg (bcells v).toArray, .string t] w' fun e w'' => e = .returned (.agg (bcells (Pm.sign v t.data.toList)).toArray) ∧ Kept w'.heap.size w'.heap.size w' w'' := fun w' => signature_calls v hv t ht w'
  generalize (c == Pm.sign v t.data.toList) = q at heq ⊢
  generalize (bcells (Pm.sign v t.data.toList)).toArray = cu at heq hcode
  have iv : (Try.prog.info? 26).map (·.size) = some (bcells v).toArray.size := by rw [shaInfo30, List.size_toArray, bcells_length, hv.out]
  have ic : (Try.prog.info? 26).map (·.size) = some (bcells c).toArray.size := by rw [shaInfo30, List.size_toArray, bcells_length, hc.out]
  generalize (bcells v).toArray = vc at hcode iv ⊢
  generalize (bcells c).toArray = cc at heq ic ⊢
  have gd := macGuard25
  go_enter Try.func35, Try.ntmps35
  go_upto_region 1 with fail
  have hV : ((w.alloc (.cells vc 26)).alloc (.cells cc 26)).heap[w.heap.size]? = some (.cells vc 26 (0, 0)) := heap_alloc2_old w _ _
  have hC : ((w.alloc (.cells vc 26)).alloc (.cells cc 26)).heap[w.heap.size + 1]? = some (.cells cc 26 (0, 0)) := heap_alloc2_last w _ _
  have k1 : Kept w.heap.size w.heap.size w ((w.alloc (.cells vc 26)).alloc (.cells cc 26)) := ((Kept.refl _ _ _).alloc (Nat.le_refl _) _).alloc (by simp) _
  generalize (w.alloc (.cells vc 26)).alloc (.cells cc 26) = w1 at hV hC k1 ⊢
  obtain ⟨wa, hwa⟩ : ∃ wa, wa = w.heap.size := ⟨_, rfl⟩
  rw [← hwa] at hV hC ⊢
  have hld : ∀ w', Kept w1.heap.size w1.heap.size w1 w' → (loadVar 26 ⟨wa, 0, none⟩).run Try.prog w' = .ok (.agg vc) w' ∧ (loadVar 26 ⟨wa + 1, 0, none⟩).run Try.prog w' = .ok (.agg cc) w' := fun w' kk =>
    ⟨run_loadVar_row w' wa 26 26 vc (0, 0) _ ((kk.block _ (lt_of_block hV) (Nat.ne_of_lt (lt_of_block hV))).trans hV) Try.underlying26 rfl iv, run_loadVar_row w' (wa + 1) 26 26 cc (0, 0) _ ((kk.block _ (lt_of_block hC) (Nat.ne_of_lt (lt_of_block hC))).trans hC) Try.underlying26 rfl ic⟩
  have HLD := Lib.hid hld
  have HCODE := Lib.hid hcode
  have K1 := Lib.hid k1
  clear hld hcode k1 hV hC hwa iv ic
  refine wp_region_noPanic ?_
  refine wp_region_held_drew (S := fun w' => Kept w1.heap.size w1.heap.size w1 w') (by kernel_rfl) ((Kept.refl _ _ _).drew) (fun hH => ?_)
  refine wpAnyH_take_at (i := 0) 7 (.agg cc) rfl rfl (by kernel_rfl) (by kernel_rfl) (by kernel_rfl) (fun _ _ _ h => h) (yieldsIf_load_known (by rfl) 26 _ rfl (wa + 1) (0) rfl (.agg cc) (fun w' hw' => (HLD.out w' hw').2)) hH ?_
  simp only [List.setIfInBounds_toArray, List.set_cons_zero, List.set_cons_succ]
  refine wpAnyH_take_at (i := 1) 8 (.agg vc) rfl rfl (by kernel_rfl) (by kernel_rfl) (by kernel_rfl) (fun _ _ _ h => h) (yieldsIf_load_known (by rfl) 26 _ rfl (wa) (0) rfl (.agg vc) (fun w' hw' => (HLD.out w' hw').1)) hH ?_
  simp only [List.setIfInBounds_toArray, List.set_cons_zero, List.set_cons_succ]
  refine wpAnyH_take_at (i := 2) 9 (.string t) rfl rfl (by kernel_rfl) (by kernel_rfl) (by kernel_rfl) (fun _ _ _ h => h) (.inl ⟨by rfl, fun w9 _ => by go_simp⟩) hH ?_
  simp only [List.setIfInBounds_toArray, List.set_cons_zero, List.set_cons_succ]
  refine wpAnyH_ready (rs := [3]) (by kernel_rfl) (by simp) ?_
  refine AllReadyH.cons rfl (fun K hK => ?_) AllReadyH.nil
  rw [if_pos (by rfl)]
  go_simp
  go_wp2_with (go_at_call 64; refine (HCODE.out _).mono ?_; rintro e w8 ⟨rfl, k8⟩)
  have K8 : Kept w1.heap.size w1.heap.size w1 w8 := (Kept.refl _ _ _).drew.trans k8
  refine hK.out _ _ (K8) (fun hH => ?_)
  clear hK K
  refine wpAnyH_take_at (i := 4) 11 (.bool q) rfl rfl (by kernel_rfl) (by kernel_rfl) (by kernel_rfl) (fun _ _ _ h => h) (.inl ⟨by rfl, fun w9 _ => by go_simp⟩) hH ?_
  simp only [List.setIfInBounds_toArray, List.set_cons_zero, List.set_cons_succ]
  refine wpAnyH_take_at (i := 5) 6 (.bool q) rfl rfl (by kernel_rfl) (by kernel_rfl) (by kernel_rfl) (fun _ _ _ h => h) (.inl ⟨by rfl, fun w9 _ => by go_simp⟩) hH ?_
  simp only [List.setIfInBounds_toArray, List.set_cons_zero, List.set_cons_succ]
  refine wpAnyH_done (by kernel_rfl) ?_ _
  refine NoPanic.normal ?_
  go_wp2
  go_ret
  exact ⟨rfl, K1.out.trans (K8.mono K1.out.size (fun i hi _ => by have := K1.out.size; omega))⟩

end Go.Proofs.Ytohichignjjleaa
