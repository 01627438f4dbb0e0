/-
  The key's 64 bytes, put exclusively with 36, and 5c: the landed ones.
-/
import Derived.Test.YtdhebdahfnilkaaMacFour
import Derived.Deep.MidRow
import Derived.Deep.Cut
import Derived.Deep.DeepCutAuto
import Derived.Laws.BitsAllLaws
import Derived.Test.YtdhebdahfnilkaaQuietLoad
namespace Go.Proofs.Ytdhebdahfnilkaa
open Go.RowKit

/-- Behind the first i rounds. -/
def padRow (f : List UInt8) (i : Nat) : List UInt8 := Mc.put 54 (f.take i) ++ f.drop i ++ (Mc.put 92 (f.take i) ++ f.drop i)
/-- What a padded key is laid as. -/
def padOf (f : List UInt8) : List UInt8 := Mc.put 54 f ++ Mc.put 92 f
theorem padRow_all (f : List UInt8) (h : f.length = 64) : padRow f 64 = padOf f := by
  rw [padRow, padOf, List.take_of_length_le (by omega), List.drop_of_length_le (by omega), List.append_nil, List.append_nil]
theorem padRow_zero (f : List UInt8) : padRow f 0 = f ++ f := by simp [padRow, Mc.put]
theorem padRow_length (f : List UInt8) (h : f.length = 64) (i : Nat) (hi : i ≤ 64) : (padRow f i).length = 128 := by
  simp only [padRow, List.length_append, Mc.put_length, List.length_take, List.length_drop, h]
  omega
theorem padOf_length (f : List UInt8) (h : f.length = 64) : (padOf f).length = 128 := by rw [padOf, List.length_append, Mc.put_length, Mc.put_length, h]
theorem half_length (x : UInt8) (f : List UInt8) (h : f.length = 64) (i : Nat) (hi : i ≤ 64) : (Mc.put x (f.take i) ++ f.drop i).length = 64 := by
  simp only [List.length_append, Mc.put_length, List.length_take, List.length_drop, h]
  omega
theorem half_at (x : UInt8) (f : List UInt8) (i : Nat) (hi : i < f.length) : (Mc.put x (f.take i) ++ f.drop i)[i]? = some f[i] := by
  have hl : (Mc.put x (f.take i)).length = i := by rw [Mc.put_length, List.length_take]; omega
  rw [List.getElem?_append_right (by omega), hl, Nat.sub_self, List.getElem?_drop]
  simp [hi]
theorem half_set (x : UInt8) (f : List UInt8) (i : Nat) (hi : i < f.length) : (Mc.put x (f.take i) ++ f.drop i).set i (f[i] ^^^ x) = Mc.put x (f.take (i + 1)) ++ f.drop (i + 1) := by
  have hl : (Mc.put x (f.take i)).length = i := by rw [Mc.put_length, List.length_take]; omega
  rw [List.set_append_right _ _ (by omega), hl, Nat.sub_self, List.drop_eq_getElem_cons hi, List.set_cons_zero, List.take_succ_eq_append_getElem hi, Mc.put, Mc.put, List.map_append, List.append_assoc]
  rfl
theorem padRow_in (f : List UInt8) (h : f.length = 64) (i : Nat) (hi : i < f.length) : (padRow f i)[i]? = some f[i] := by
  rw [padRow, List.getElem?_append_left (by rw [half_length 54 f h i (by omega)]; omega), half_at 54 f i hi]
theorem padRow_out (f : List UInt8) (h : f.length = 64) (i : Nat) (hi : i < f.length) : ((padRow f i).set i (f[i] ^^^ 54))[64 + i]? = some f[i] := by
  have hl := half_length 54 f h i (by omega)
  rw [padRow, List.getElem?_set_ne (by omega), List.getElem?_append_right (by omega), hl, Nat.add_sub_cancel_left, half_at 92 f i hi]
theorem padRow_more (f : List UInt8) (h : f.length = 64) (i : Nat) (hi : i < f.length) : ((padRow f i).set i (f[i] ^^^ 54)).set (64 + i) (f[i] ^^^ 92) = padRow f (i + 1) := by
  have hl := half_length 54 f h i (by omega)
  have hl2 := half_length 54 f h (i + 1) (by omega)
  rw [padRow, List.set_append_left _ _ (by omega), half_set 54 f i hi, List.set_append_right _ _ (by omega), hl2, Nat.add_sub_cancel_left, half_set 92 f i hi, padRow]

theorem padInfo : (Try.prog.info? 45).map (·.size) = some 128 := by kernel_rfl
theorem halfInfo : (Try.prog.info? 43).map (·.size) = some 64 := by kernel_rfl

/-! ## Bytes laid over others. -/
def over (m : List UInt8) (o : Nat) : List UInt8 → List UInt8
  | [] => m
  | c :: y => over (m.set o c) (o + 1) y
theorem over_behind : ∀ (y a b : List UInt8), b.length = y.length → over (a ++ b) a.length y = a ++ y
  | [], a, b, h => by
    obtain rfl : b = [] := List.length_eq_zero_iff.1 h
    rfl
  | c :: y, a, b, h => by
    match b, h with
    | d :: b, h =>
      have e : (a ++ d :: b).set a.length c = (a ++ [c]) ++ b := by
        rw [List.set_append_right _ _ (Nat.le_refl _), Nat.sub_self, List.set_cons_zero, List.append_assoc]
        rfl
      have := over_behind y (a ++ [c]) b (by simpa using h)
      rw [List.length_append, List.length_singleton] at this
      rw [over, e, this, List.append_assoc]
      rfl
theorem setCells_bytes (b : Nat) (t : TypeId) : ∀ (y : List UInt8) (o : Nat) (m : List UInt8) (w : World), w.heap[b]? = some (.cells (bcells m).toArray t (0, 0)) → (w.setCells b o (bcells y)).heap[b]? = some (.cells (bcells (over m o y)).toArray t (0, 0))
  | [], _, _, _, h => h
  | c :: y, o, m, w, h => by
    have h1 := cells_set h o (.int .u8 (c.toNat : Int))
    rw [show (bcells m).set o (.int .u8 (c.toNat : Int)) = bcells (m.set o c) by simp [bcells, List.map_set]] at h1
    exact setCells_bytes b t y (o + 1) (m.set o c) _ h1
theorem Kept.setCells {base b : Nat} {w1 : World} {b' : Nat} (hp : b' = b ∨ base ≤ b') : ∀ (vs : List Value) (o : Nat) (w : World), Kept base b w1 w → Kept base b w1 (w.setCells b' o vs)
  | [], _, _, h => h
  | v :: vs, o, _, h => Kept.setCells hp vs (o + 1) _ (h.set hp o v)
theorem setCells_size (b : Nat) : ∀ (vs : List Value) (o : Nat) (w : World), (w.setCells b o vs).heap.size = w.heap.size
  | [], _, _ => rfl
  | v :: vs, o, w => by
    rw [World.setCells, setCells_size b vs (o + 1) _]
    simp [World.setCell]

theorem store_over {P : Program} (w : World) (g : Nat) (t : TypeId) (old cs : Array Value) (hg : w.heap[g]? = some (.cells old t (0, 0))) (ho : old.size = cs.size) (h1 : cs.all (·.oneCell') = true) : (storeCells ⟨g, 0, none⟩ cs.toList).run P w = .ok () (w.setRow g cs) := by
  have := run_storeCells_from (P := P) g t cs.toList 0 old w hg (by simp; omega) (fun v hv => (Array.all_eq_true_iff_forall_mem.1 h1) v (by simpa using hv))
  rw [this]
  simp
theorem bcell_at {w : World} {b : Nat} {m : List UInt8} {t : TypeId} (h : w.heap[b]? = some (.cells (bcells m).toArray t (0, 0))) {j : Nat} {x : UInt8} (hj : m[j]? = some x) : w.cell? ⟨b, j, none⟩ = some (.int .u8 (x.toNat : Int)) := by
  simp [World.cell?, h, bcells, hj]
theorem bcell_set {w : World} {b : Nat} {m : List UInt8} {t : TypeId} (h : w.heap[b]? = some (.cells (bcells m).toArray t (0, 0))) (j : Nat) (x : UInt8) : (w.setCell ⟨b, j, none⟩ (.int .u8 (x.toNat : Int))).heap[b]? = some (.cells (bcells (m.set j x)).toArray t (0, 0)) := by
  have h1 := cells_set h j (.int .u8 (x.toNat : Int))
  rwa [show (bcells m).set j (.int .u8 (x.toNat : Int)) = bcells (m.set j x) by simp [bcells, List.map_set]] at h1
theorem xor8 (x y : UInt8) : bits .xor .u8 (x.toNat : Int) (y.toNat : Int) = ((x ^^^ y).toNat : Int) := by
  rw [u8_xor_nat _ _ x.toNat_lt y.toNat_lt, UInt8.toNat_xor]

/-- A padded key's zero. -/
def padNil : Array Value := (bcells (List.replicate 128 0)).toArray
theorem short_le (k : List UInt8) (s : ByteArray) (h : s.data.toList = Mc.short k) : s.size ≤ 64 := by
  have h1 := Mc.short_length k
  have h2 : s.data.toList.length = s.size := by simp
  rw [h] at h2
  omega

set_option maxRecDepth 100000 in
set_option maxHeartbeats 1600000 in
theorem pad_calls (key : ByteArray) (hk : Hid (key.size < 1152921504606846976)) (w : World) : Calls Try.prog 19 #[.string key] w fun e w' => e = .returned (.agg (bcells (padOf (Mc.filled key.data.toList))).toArray) ∧ Kept w.heap.size w.heap.size w w' := by
  go_enter Try.func19, Try.ntmps19
  go_upto_region 1 with fail
  generalize hr : Result.andThen _ _ = r
  have hr2 : r = .ok (.value (.pointer (some ⟨w.heap.size, 0, none⟩))) (w.alloc (.cells padNil 45)) := by
    rw [← hr]
    kernel_rfl
  rw [hr2]
  clear hr hr2 r
  go_upto_region 1 with fail
  have hA : (w.alloc (.cells padNil 45)).heap[w.heap.size]? = some (.cells padNil 45 (0, 0)) := heap_new _ _
  have k1 : Kept w.heap.size w.heap.size w (w.alloc (.cells padNil 45)) := (Kept.refl _ _ _).alloc (Nat.le_refl _) _
  have s1 : (w.alloc (.cells padNil 45)).heap.size = w.heap.size + 1 := by simp
  generalize w.alloc (.cells padNil 45) = w1 at hA k1 s1 ⊢
  obtain ⟨wa, hwa⟩ : ∃ wa, wa = w.heap.size := ⟨_, rfl⟩
  rw [← hwa] at hA k1 s1 ⊢
  have HWA := Lib.hid hwa
  have HA := Lib.hid hA
  have HK1 := Lib.hid k1
  have HS1 := Lib.hid s1
  clear hwa hA k1 s1
  go_upto_if 8 with fail
  go_cut [0] (fun s wx => ∃ T : ByteArray, s = .string T ∧ Hid (T.data.toList = Mc.short key.data.toList) ∧ Hid (Kept w1.heap.size w1.heap.size w1 wx))
  case first =>
    have hall := bcells_all (Sm.sum key.data.toList)
    have hcs : (bcells (Sm.sum key.data.toList)).toArray.size = 32 := by rw [List.size_toArray, bcells_length, sum_length]
    have hone := sum_one key w1.heap.size (w1.alloc (.cells #[.string key] 9)) hk (by simp) (World.cell?_alloc_new w1 _ _ 0)
    have hcv := fun (w : World) => conv_row (w.alloc (.cells (bcells (Sm.sum key.data.toList)).toArray 25)) w.heap.size (Sm.sum key.data.toList) _ (0, 0) (heap_new _ _) 0 32 (Sm.sum key.data.toList) (by simp)
    rw [sum_length] at hcv
    have Hone := Lib.hid hone
    have Hcv := Lib.hid hcv
    have Hall := Lib.hid hall
    have Hcs := Lib.hid hcs
    clear hone hcv hall hcs
    by_cases hl : 64 < key.size
    · have hd : decide ((64 : Int) < (key.size : Int)) = true := decide_eq_true (by omega)
      go_wp2_with fail
      refine Hone.out.mono ?_
      rintro e w2 ⟨rfl, k2⟩
      go_wp2_with fail
      rw [store_new w2 25 _ _ (by rw [Hcs.out]; rfl) Hall.out]
      go_wp2_with fail
      rw [Hcv.out w2]
      go_wp2
      go_meet
      refine ⟨_, rfl, Lib.hid ?_, Lib.hid ?_⟩
      · rw [Mc.short, if_pos (by simpa using hl)]
      · exact ((((Kept.refl _ _ _).alloc (Nat.le_refl _) _).trans (k2.mono (by simp) (fun k hk _ => by simp; omega))).alloc (by have := k2.size; simp at this; omega) _)
    · have hd : decide ((64 : Int) < (key.size : Int)) = false := decide_eq_false (by omega)
      go_wp2
      go_meet
      refine ⟨_, rfl, Lib.hid ?_, Lib.hid (Kept.refl _ _ _)⟩
      rw [Mc.short, if_neg (by simpa using hl)]
  case rest =>
    obtain ⟨T, rfl, hT, hK⟩ := hcut
    have hT64 := short_le _ T hT.out
    go_wp2_with fail
    generalize hr : Result.andThen _ _ = r
    have hr2 : r = .ok (.value (.pointer (some ⟨wc.heap.size, 0, none⟩))) (wc.alloc (.cells padNil 45)) := by
      rw [← hr]
      kernel_rfl
    rw [hr2]
    clear hr hr2 r
    have hB : (wc.alloc (.cells padNil 45)).heap[wc.heap.size]? = some (.cells (bcells (List.replicate 128 0)).toArray 45 (0, 0)) := heap_new _ _
    have k2 : Kept w1.heap.size w1.heap.size w1 (wc.alloc (.cells padNil 45)) := hK.out.alloc hK.out.size _
    have s2 : (wc.alloc (.cells padNil 45)).heap.size = wc.heap.size + 1 := by simp
    generalize wc.alloc (.cells padNil 45) = w2 at hB k2 s2 ⊢
    obtain ⟨wb, hwb⟩ : ∃ wb, wb = wc.heap.size := ⟨_, rfl⟩
    have hbs : w1.heap.size ≤ wb := by rw [hwb]; exact hK.out.size
    rw [← hwb] at hB s2 ⊢
    clear hwb
    have hcp := run_copy_str (P := Try.prog) w2 38 9 3 5 wb 0 64 64 T _ 45 T.size (Nat.min_eq_left hT64).symm Try.underlying38 shaInfoU8 hB (by rw [List.size_toArray, bcells_length, List.length_replicate]; omega)
    have hlT : T.data.toList.length = T.size := by simp
    have hfl : Mc.filled key.data.toList = T.data.toList ++ List.replicate (64 - T.size) 0 := by rw [Mc.filled, ← hT.out, hlT]
    have hfn := Mc.filled_length key.data.toList
    generalize hFF : Mc.filled key.data.toList = F at hfl hfn
    have HFF := Lib.hid hFF
    clear hFF
    have hrow : ((bcells (List.replicate 128 0)).toArray.toList.take 0 ++ bcells (T.data.toList.take T.size) ++ (bcells (List.replicate 128 0)).toArray.toList.drop (0 + T.size)).toArray = (bcells (F ++ List.replicate 64 0)).toArray := by
      rw [List.take_zero, List.nil_append, List.take_of_length_le (Nat.le_of_eq hlT), Nat.zero_add, hfl]
      simp only [bcells, List.map_replicate, List.drop_replicate, List.map_append, List.append_assoc, List.replicate_append_replicate]
      rw [show 128 - T.size = 64 - T.size + 64 by omega]
    rw [hrow] at hcp
    have hC := setRow_heap w2 wb (bcells (List.replicate 128 0)).toArray (bcells (F ++ List.replicate 64 0)).toArray _ _ hB
    have k3 : Kept w1.heap.size w1.heap.size w1 (w2.setRow wb (bcells (F ++ List.replicate 64 0)).toArray) :=
      k2.trans ⟨rfl, rfl, rfl, by simp [World.setRow], fun k hk _ => setRow_other w2 wb k _ (by omega)⟩
    have s3 : (w2.setRow wb (bcells (F ++ List.replicate 64 0)).toArray).heap.size = wb + 1 := by rw [← s2]; simp [World.setRow]
    generalize w2.setRow wb (bcells (F ++ List.replicate 64 0)).toArray = w3 at hcp hC k3 s3
    have hr := World.rangeAt_of_block hC 0 64
    have hx : ((bcells (F ++ List.replicate 64 0)).toArray.extract 0 (0 + 64)).toList = bcells F := by
      simp [bcells, hfn]
    rw [hx] at hr
    have ht : w3.there wb 64 (bcells F).toArray.size := fun j hj => by
      have hj' : j < 64 := by rw [List.size_toArray, bcells_length, hfn] at hj; exact hj
      rw [cells_at hC (64 + j) (by rw [bcells_length, List.length_append, hfn, List.length_replicate]; omega)]
      exact ⟨rfl, cells_free hC _⟩
    have hall := bcells_all F
    have hsz : (bcells F).length = 64 := by rw [bcells_length, hfn]
    have hD := setCells_bytes wb _ F 64 _ _ hC
    have hov := over_behind F F (List.replicate 64 0) (by rw [List.length_replicate, hfn])
    rw [hfn] at hov
    rw [hov, ← padRow_zero] at hD
    have k4 := Kept.setCells (.inr hbs) (bcells F) 64 w3 k3
    have s4 := setCells_size wb (bcells F) 64 w3
    rw [s3] at s4
    have Hcp := Lib.hid hcp
    have Hr := Lib.hid hr
    have Ht := Lib.hid ht
    have Hall := Lib.hid hall
    have Hsz := Lib.hid hsz
    have HD := Lib.hid hD
    have HK4 := Lib.hid k4
    have HS4 := Lib.hid s4
    have Hfn := Lib.hid hfn
    have Hbs := Lib.hid hbs
    clear hcp hr ht hall hsz hD hov k4 s4 hC k3 s3 hx hrow hlT hfl hfn hB k2 s2 hK hT hT64 hbs
    go_wp2_with fail
    rw [Hcp.out]
    go_wp2_with (first | (with_reducible refine wpList_load_mid rfl 43 _ rfl wb 0 rfl (bcells F) _ Hr.out Try.underlying43 rfl (by rw [halfInfo, Hsz.out]) ?_) | (with_reducible refine wpList_store_mid rfl 43 _ _ rfl wb 64 (bcells F).toArray rfl rfl Ht.out (by rw [halfInfo, List.size_toArray, Hsz.out]) Hall.out ?_))
    generalize w3.setCells wb 64 (bcells F) = w4 at HD HK4 HS4 ⊢
    clear Hcp Hr Ht Hall Hsz
    go_loopw [5, 21] (fun x5 j w9 => ∃ i : Nat, i ≤ 64 ∧ j = .int .i64 (i : Int) ∧ Hid (w9.heap[wb]? = some (.cells (bcells (padRow F i)).toArray 45 (0, 0))) ∧ Hid (Kept (wb + 1) wb w4 w9)) (fun _ j _ => 64 - (intOf j).toNat)
    case atStart => exact ⟨0, by omega, rfl, HD, Lib.hid (Kept.refl _ _ _)⟩
    case round =>
      obtain ⟨i, hi, rfl, hD, hK⟩ := hrel
      have hln := padRow_length F Hfn.out i hi
      have HA2 : wr.heap[wa]? = some (.cells padNil 45 (0, 0)) := by
        have := HS1.out
        have := Hbs.out
        exact (hK.out.block wa (by omega) (by omega)).trans ((HK4.out.block wa (by omega) (by omega)).trans HA.out)
      by_cases hlt : i < 64
      · have hiF : i < F.length := by rw [Hfn.out]; exact hlt
        have hin := padRow_in F Hfn.out i hiF
        have hout := padRow_out F Hfn.out i hiF
        have hmore := padRow_more F Hfn.out i hiF
        generalize F[i] = X at hin hout hmore
        have hc1 := bcell_at hD.out hin
        have hf1 := cells_free hD.out i
        have hs1 := bcell_set hD.out i (X ^^^ 54)
        have hc2 := bcell_at hs1 hout
        have hf2 := cells_free hs1 (64 + i)
        have hs2 := bcell_set hs1 (64 + i) (X ^^^ 92)
        rw [hmore] at hs2
        have hk2 := (hK.out.set (b' := wb) (.inl rfl) i (.int .u8 ((X ^^^ 54).toNat : Int))).set (b' := wb) (.inl rfl) (64 + i) (.int .u8 ((X ^^^ 92).toNat : Int))
        have hx1 : bits .xor .u8 (X.toNat : Int) 54 = ((X ^^^ 54).toNat : Int) := xor8 X 54
        have hx2 : bits .xor .u8 (X.toNat : Int) 92 = ((X ^^^ 92).toNat : Int) := xor8 X 92
        generalize X ^^^ 54 = A at *
        generalize X ^^^ 92 = B at *
        have Hs2 := Lib.hid hs2
        have Hk2 := Lib.hid hk2
        clear hs1 hs2 hk2 hin hout hmore hln
        go_wp2
        exact ⟨⟨i + 1, by omega, by rw [Int.natCast_add]; rfl, Hs2, Hk2⟩, by simp only [intOf]; omega⟩
      · obtain rfl : i = 64 := by omega
        have hD' := hD.out
        rw [padRow_all F Hfn.out] at hD'
        have hsz : (bcells (padOf F)).toArray.size = 128 := by rw [List.size_toArray, bcells_length, padOf_length F Hfn.out]
        have hall := bcells_all (padOf F)
        generalize hcs : (bcells (padOf F)).toArray = cs at hD' hsz hall
        have Hcs := Lib.hid hcs
        clear hcs
        go_wp2_with (first | (with_reducible refine wpList_load_row rfl 45 _ rfl wb rfl 45 cs (0, 0) _ hD' Try.underlying45 rfl (by rw [padInfo, hsz]) ?_) | (with_reducible refine wpList_store_row rfl 45 _ _ rfl wa cs rfl rfl 45 _ HA2 (by rw [padInfo, hsz]) (by rw [hsz]; rfl) hall ?_))
        rw [store_over wr wa 45 padNil cs HA2 (by rw [hsz]; rfl) hall]
        go_wp2_with fail
        obtain ⟨t1, t2⟩ : Kept wa wa w (wr.setRow wa cs) ∧ (wr.setRow wa cs).heap[wa]? = some (.cells cs 45 (0, 0)) := by
          have h1 := HS1.out
          have h2 := Hbs.out
          refine ⟨?_, setRow_heap wr wa padNil cs _ _ HA2⟩
          exact ((HK1.out.trans (HK4.out.mono (by omega) (fun k hk _ => by omega))).trans (hK.out.mono (by omega) (fun k hk _ => by omega))).trans ⟨rfl, rfl, rfl, by simp [World.setRow], fun k hk _ => setRow_other wr wa k cs (by omega)⟩
        refine bodyPost_ret (results_cell_row rfl _ _ wa 45 cs (0, 0) _ rfl t2 Try.underlying45 rfl (by rw [padInfo, hsz])) rfl ?_
        refine ⟨by rw [HFF.out, Hcs.out], ?_⟩
        rw [← HWA.out]
        exact t1

end Go.Proofs.Ytdhebdahfnilkaa
