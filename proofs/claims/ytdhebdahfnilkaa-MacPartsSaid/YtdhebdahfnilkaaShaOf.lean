/-
  The landed digest of parts.
-/
import Derived.Test.YtdhebdahfnilkaaShaTake
import Derived.Test.YtdhebdahfnilkaaShaEnding
import Derived.Test.YtdhebdahfnilkaaShaHash
import Derived.Test.YtdhebdahfnilkaaShaStart
namespace Go.Proofs.Ytdhebdahfnilkaa
open Go.RowKit

theorem shaInfoDig : (Try.prog.info? 59).map (·.size) = some 138 := by kernel_rfl
/-- So many parts behind one another. -/
def joined (parts : List ByteArray) (k : Nat) : List UInt8 := (parts.take k).flatMap fun s => s.data.toList
theorem joined_more (parts : List ByteArray) (k : Nat) (h : k < parts.length) : joined parts (k + 1) = joined parts k ++ (parts[k]).data.toList := by
  rw [joined, joined, List.take_succ_eq_append_getElem h, List.flatMap_append]
  simp
theorem joined_le (parts : List ByteArray) (k : Nat) : (joined parts k).length ≤ (joined parts parts.length).length := by
  have e : joined parts parts.length = joined parts k ++ (parts.drop k).flatMap fun s => s.data.toList := by
    rw [joined, joined, ← List.flatMap_append, List.take_append_drop, List.take_length]
  rw [e, List.length_append]
  omega

/-- What the digester is laid as. -/
def digZero : Array Value := (digCells Sm.init.list (List.replicate 64 0) 0 0).toArray

/-- A digester's zero. -/
def digNil : Array Value := (List.replicate 72 (Value.int .u32 0) ++ List.replicate 64 (Value.int .u8 0) ++ [Value.int .i64 0, Value.int .u64 0]).toArray
theorem digNil_size : digNil.size = 138 := by kernel_rfl
theorem digZero_all : digZero.all (·.oneCell') = true := by
  rw [digZero, Array.all_eq_true_iff_forall_mem]
  intro v hv
  rw [List.mem_toArray, digCells, List.mem_append, List.mem_append, List.mem_append] at hv
  rcases hv with h | h | h | h
  · exact Array.all_eq_true_iff_forall_mem.1 (wcells_all _) v (by simpa using h)
  · exact Array.all_eq_true_iff_forall_mem.1 (wcells_all _) v (by simpa using h)
  · exact bcells_one _ v h
  · simp at h
    rcases h with rfl | rfl <;> rfl

set_option maxRecDepth 100000 in
set_option maxHeartbeats 1600000 in
theorem sum_calls (parts : List ByteArray) (ad : Option Addr) (c g o : Nat) (w : World) (hlen : Hid (parts.length < 1152921504606846976)) (htot : Hid ((joined parts parts.length).length < 1152921504606846976))
    (hcell : ∀ j (hj : j < parts.length), ad = some ⟨g, o, none⟩ ∧ g < w.heap.size ∧ w.cell? ⟨g, o + j, none⟩ = some (.string parts[j])) :
    Calls Try.prog 24 #[.slice ad parts.length c] w fun e w' => e = .returned (.agg (bcells (Sm.sum (joined parts parts.length))).toArray) ∧ Kept w.heap.size w.heap.size w w' := by
  have HC := Lib.hid hcell
  clear hcell
  go_enter Try.func24, Try.ntmps24
  go_upto_region 1 with fail
  rw [zeros32_eq]
  have hA : (w.alloc (.cells zeros32 25)).heap[w.heap.size]? = some (.cells zeros32 25 (0, 0)) := heap_new _ _
  have k1 : Kept w.heap.size w.heap.size w (w.alloc (.cells zeros32 25)) := (Kept.refl _ _ _).alloc (Nat.le_refl _) _
  have s1 : (w.alloc (.cells zeros32 25)).heap.size = w.heap.size + 1 := by simp
  generalize w.alloc (.cells zeros32 25) = w1 at hA k1 s1 ⊢
  obtain ⟨wa, hwa⟩ : ∃ wa, wa = w.heap.size := ⟨_, rfl⟩
  rw [← hwa] at hA k1 s1 ⊢
  have HWA := Lib.hid hwa
  clear hwa
  go_wp2_with fail
  refine (firstState_calls w1).mono ?_
  rintro e w2 ⟨rfl, k2⟩
  generalize hst : (wcells Sm.init.list).toArray = st
  go_wp2_with fail
  refine (roundWords_calls w2).mono ?_
  rintro e w3 ⟨rfl, k3⟩
  generalize hkk : (wcells Sm.K).toArray = kk
  have Hst := Lib.hid hst
  have Hkk := Lib.hid hkk
  have hzz : digZero.size = 138 := by
    rw [digZero, List.size_toArray]
    exact dig_length _ _ _ _ rfl rfl
  clear hst hkk
  go_wp2_with fail
  generalize hr : Result.andThen _ _ = r
  have hr2 : r = .ok (.value (.agg digZero)) w3 := by
    rw [← hr, ← Hst.out, ← Hkk.out]
    kernel_rfl
  rw [hr2]
  clear hr hr2 r
  go_wp2_with fail
  generalize hr : Result.andThen _ _ = r
  have hr2 : r = .ok (.value (.pointer (some ⟨w3.heap.size, 0, none⟩))) (w3.alloc (.cells digNil 59)) := by
    rw [← hr]
    kernel_rfl
  rw [hr2]
  clear hr hr2 r
  have hst2 := store_new (P := Try.prog) w3 59 digNil digZero (by rw [hzz]; exact digNil_size) digZero_all
  have hD : Dig (w3.alloc (.cells digZero 59)) w3.heap.size Sm.init.list (List.replicate 64 0) 0 0 := heap_new _ _
  have k4 : Kept w3.heap.size w3.heap.size w3 (w3.alloc (.cells digZero 59)) := (Kept.refl _ _ _).alloc (Nat.le_refl _) _
  have s4 : (w3.alloc (.cells digZero 59)).heap.size = w3.heap.size + 1 := by simp
  generalize hDN : digNil = DN at hst2 ⊢
  generalize hDZ : digZero = DZ at hst2 hD k4 s4 hzz ⊢
  have Hst2 := Lib.hid hst2
  clear hDN hDZ hst2
  go_wp2_with fail
  rw [Hst2.out]
  generalize w3.alloc (.cells DZ 59) = w4 at hD k4 s4 ⊢
  have hT : Taken w4 w3.heap.size (joined parts 0) (((joined parts 0).length : Nat) : Int) := by
    rw [show joined parts 0 = [] by simp [joined]]
    exact ⟨List.replicate 64 0, rfl, rfl, hD⟩
  have hws : w.heap.size + 1 ≤ w3.heap.size := by
    have h2 := k2.size
    have h3 := k3.size
    have := HWA.out
    omega
  have hK4 : Kept w.heap.size w.heap.size w w4 := by
    have h2 := k2.size
    have h3 := k3.size
    have := HWA.out
    refine ((((?_ : Kept w.heap.size w.heap.size w w1).trans (k2.mono (by omega) (fun k hk _ => by omega))).trans (k3.mono (by omega) (fun k hk _ => by omega))).trans (k4.mono (by omega) (fun k hk _ => by omega)))
    rw [← HWA.out]
    exact HWA.out ▸ k1
  have hA4 : w4.heap[wa]? = some (.cells zeros32 25 (0, 0)) := by
    have h2 := k2.size
    have h3 := k3.size
    exact (k4.block wa (by omega) (by omega)).trans ((k3.block wa (by omega) (by omega)).trans ((k2.block wa (by omega) (by omega)).trans hA))
  obtain ⟨wd, hwd⟩ : ∃ wd, wd = w3.heap.size := ⟨_, rfl⟩
  rw [← hwd] at hT hws s4 ⊢
  have hawd : wa < wd := by have := HWA.out; omega
  have HT := Lib.hid hT
  have HK4 := Lib.hid hK4
  have HA4 := Lib.hid hA4
  have Hws := Lib.hid hws
  clear hT hK4 hA4 hws k1 k2 k3 k4 hA hD s1 hwd Hst Hkk Hst2 hzz
  go_wp2_with fail
  go_loopw [5, 11] (fun x5 j w9 => ∃ k : Nat, k ≤ parts.length ∧ j = .int .i64 (k : Int) ∧ Hid (Taken w9 wd (joined parts k) (((joined parts k).length : Nat) : Int)) ∧ Hid (Kept (wd + 1) wd w4 w9)) (fun _ j _ => parts.length - (intOf j).toNat)
  case atStart => exact ⟨0, by omega, rfl, HT, Lib.hid (Kept.refl _ _ _)⟩
  case round =>
    obtain ⟨k, hk, rfl, hT, hK⟩ := hrel
    by_cases hlt : k < parts.length
    · obtain ⟨rfl, hg, hc⟩ := HC.out k hlt
      have hcr : wr.cell? ⟨g, o + k, none⟩ = some (.string parts[k]) := (hK.out.cell (p := ⟨g, o + k, none⟩) (by show g < _; have := Hws.out; omega) (by show g ≠ _; have := Hws.out; omega)).trans ((HK4.out.cell (p := ⟨g, o + k, none⟩) hg (by show g ≠ _; omega)).trans hc)
      have hmore := joined_more parts k hlt
      have hle := joined_le parts (k + 1)
      have hsz : (parts[k]).data.toList.length = (parts[k]).size := by simp
      generalize parts[k] = S at hcr hmore hsz
      have hlen1 : (joined parts (k + 1)).length = (joined parts k).length + S.size := by rw [hmore, List.length_append, hsz]
      have Hmore := Lib.hid hmore
      have Hlen1 := Lib.hid hlen1
      have HN : Hid ((joined parts k).length + S.size < 9223372036854775808) := Lib.hid (by have := htot.out; omega)
      have hln : (k : Int) < (parts.length : Int) := by omega
      have hw1 : wrap64 ((k : Int) + 1) = (k : Int) + 1 := by have := hlen.out; unfold wrap64; omega
      clear hc hmore hle hlen1
      go_wp2_with fail
      refine (take_calls wd (joined parts k) (joined parts k).length S wr hT.out HN).mono ?_
      rintro e w9 ⟨rfl, hT9, k9⟩
      rw [← Hmore.out, ← Hlen1.out] at hT9
      have hwr : wd + 1 ≤ wr.heap.size := by have := hK.out.size; omega
      have HT9 := Lib.hid hT9
      have HK9 := Lib.hid (hK.out.trans (k9.mono hwr (fun _ _ h => h)))
      clear hT9 k9
      go_wp2_with fail
      go_roundw
      case rel => exact ⟨k + 1, by omega, by go_num, Lib.hid HT9.out, Lib.hid HK9.out⟩
      case measure =>
        rw [hw1]
        clear hw1
        show parts.length - ((k : Int) + 1).toNat < parts.length - (k : Int).toNat
        omega
    · obtain rfl : k = parts.length := by omega
      obtain ⟨L, hL⟩ : ∃ L, L = joined parts parts.length := ⟨_, rfl⟩
      have HLn : Hid (L.length < 1152921504606846976) := Lib.hid (by rw [hL]; exact htot.out)
      rw [← hL] at hT
      have HL := Lib.hid hL
      clear hL htot
      obtain ⟨blk, hb64, hbt, hD⟩ := hT.out
      have c7 := hD.n (St_length _) hb64
      have hwr : wd + 1 ≤ wr.heap.size := by have := hK.out.size; omega
      clear hD hbt hb64
      go_wp2_with fail
      refine (ending_calls L.length wr HLn).mono ?_
      rintro e w10 ⟨rfl, k10⟩
      have hT10 := hT.out.same (k10.block wd (by omega) (by omega))
      have hpl : (str (padEnd L.length 8)).size = 1 + Sm.zeros L.length + 8 := by rw [str_size, padEnd_length _ _ (Nat.le_refl _)]
      have hz : Sm.zeros L.length < 64 := Nat.mod_lt _ (by decide)
      have hs10 := k10.size
      have hcall := take_calls wd L L.length (str (padEnd L.length 8)) w10 hT10 (Lib.hid (by have := HLn.out; omega))
      rw [show (str (padEnd L.length 8)).data.toList = padEnd L.length 8 from rfl, padEnd_all] at hcall
      have Hcall := Lib.hid hcall
      have K10 := Lib.hid k10
      generalize hE : str (padEnd L.length 8) = E at Hcall
      clear hT10 hcall hpl k10 c7
      go_wp2_with fail
      refine Hcall.out.mono ?_
      rintro e w11 ⟨rfl, hT11, k11⟩
      obtain ⟨blk2, hb64, hbt, hD11⟩ := hT11
      have hm := Sm.pad_mod L
      have hh := hash_calls wd (Sm.blocks (Sm.pad L) ((Sm.pad L).length / 64)) blk2 _ _ w11 hb64 hD11
      rw [← Sm.sum] at hh
      have Hh := Lib.hid hh
      have hs11 := k11.size
      have hAr := (hK.out.block wa (by omega) (by omega)).trans HA4.out
      have hA11 := (k11.block wa (by omega) (by omega)).trans ((K10.out.block wa (by omega) (by omega)).trans hAr)
      have hK11 : Kept w.heap.size w.heap.size w w11 := by
        have h1 := HWA.out
        exact ((HK4.out.trans (hK.out.mono (by omega) (fun k hk _ => by omega))).trans (K10.out.mono (by omega) (fun k hk _ => by omega))).trans (k11.mono (by omega) (fun k hk _ => by omega))
      have HK11 := Lib.hid hK11
      clear hh hD11 hbt k11 hK11 hAr Hcall
      go_wp2_with fail
      refine Hh.out.mono ?_
      rintro e w12 ⟨rfl, k12⟩
      have hA12 := (k12.block wa (by omega) (by omega)).trans hA11
      have hK12 : Kept wa wa w w12 := by
        have h1 := HWA.out
        rw [h1]
        exact HK11.out.trans (k12.mono (by omega) (fun k hk _ => by omega))
      have hcl : (Sm.sum L).length = 32 := by
        rw [Sm.sum]
        have := wbytes_length (Sm.blocks (Sm.pad L) ((Sm.pad L).length / 64)).list 8 (Nat.le_refl _)
        exact this
      have hsz : (bcells (Sm.sum L)).toArray.size = 32 := by rw [List.size_toArray, bcells_length, hcl]
      have hall := bcells_all (Sm.sum L)
      have hz32 := zeros32_size
      generalize hcs : (bcells (Sm.sum L)).toArray = cs at hsz hall ⊢
      have Hcs := Lib.hid hcs.symm
      clear hcs
      generalize zeros32 = z at hA12 hz32
      clear hA11
      go_wp2_with (with_reducible refine wpList_store_row rfl 25 _ _ rfl wa cs rfl rfl 25 _ hA12 (by rw [shaInfo30, hsz]) (by rw [hz32, hsz]) hall ?_)
      obtain ⟨t1, t2⟩ : Kept wa wa w (w12.setRow wa cs) ∧ (w12.setRow wa cs).heap[wa]? = some (.cells cs 25 (0, 0)) :=
        ⟨hK12.trans ⟨rfl, rfl, rfl, by simp [World.setRow], fun k hk _ => setRow_other w12 wa k cs (by omega)⟩, setRow_heap w12 wa z cs _ _ hA12⟩
      refine bodyPost_ret (results_cell_row rfl _ _ wa 25 cs (0, 0) _ rfl t2 Try.underlying25 rfl (by rw [shaInfo30, hsz])) rfl ?_
      refine ⟨?_, ?_⟩
      · rw [Hcs.out, HL.out]
      · rw [← HWA.out]
        exact t1

end Go.Proofs.Ytdhebdahfnilkaa
