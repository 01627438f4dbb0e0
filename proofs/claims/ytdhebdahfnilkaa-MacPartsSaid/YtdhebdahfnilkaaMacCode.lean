/-
  The landed code of parts under a key.
-/
import Derived.Test.YtdhebdahfnilkaaMacUnder
namespace Go.Proofs.Ytdhebdahfnilkaa
open Go.RowKit

set_option maxRecDepth 100000 in
set_option maxHeartbeats 1600000 in
theorem code_calls (key : ByteArray) (hk : Hid (key.size < 1073741824)) (parts : List ByteArray) (ad : Option Addr) (c g o : Nat) (w : World) (hlen : Hid (parts.length < 1073741824)) (htot : Hid ((joined parts parts.length).length < 1073741824))
    (hnil : Hid (ad = none → parts.length = 0 ∧ c = 0)) (hcell : ∀ j (hj : j < parts.length), ad = some ⟨g, o, none⟩ ∧ g < w.heap.size ∧ w.cell? ⟨g, o + j, none⟩ = some (.string parts[j])) :
    Calls Try.prog 10 #[.string key, .slice ad parts.length c] w fun e w' => e = .returned (.agg (bcells (Mc.code key.data.toList (joined parts parts.length))).toArray) ∧ Kept w.heap.size w.heap.size w w' := by
  have HC := Lib.hid hcell
  clear hcell
  go_enter Try.func10, Try.ntmps10
  go_upto_region 1 with fail
  rw [zeros32_eq]
  have hA : (w.alloc (.cells zeros32 25)).heap[w.heap.size]? = some (.cells zeros32 25 (0, 0)) := heap_new _ _
  have k1 : Kept w.heap.size w.heap.size w (w.alloc (.cells zeros32 25)) := (Kept.refl _ _ _).alloc (Nat.le_refl _) _
  have s1 : (w.alloc (.cells zeros32 25)).heap.size = w.heap.size + 1 := by simp
  generalize w.alloc (.cells zeros32 25) = w1 at hA k1 s1 ⊢
  obtain ⟨wa, hwa⟩ : ∃ wa, wa = w.heap.size := ⟨_, rfl⟩
  rw [← hwa] at hA k1 s1 ⊢
  have HWA := Lib.hid hwa
  clear hwa
  have hp := pad_calls key (Lib.hid (by have := hk.out; omega)) w1
  have HFL : Hid ((Mc.filled key.data.toList).length = 64) := Lib.hid (Mc.filled_length _)
  generalize hF : Mc.filled key.data.toList = F at hp HFL
  have HF := Lib.hid hF
  have HP := Lib.hid hp
  have HA := Lib.hid hA
  have HK1 := Lib.hid k1
  have HS1 := Lib.hid s1
  clear hp hF hA k1 s1
  go_wp2_with fail
  refine HP.out.mono ?_
  rintro e w2 ⟨rfl, k2⟩
  have hsum := under_calls F HFL parts ad c g o w2 hlen htot hnil (fun j hj => by
    obtain ⟨h1, h2, h3⟩ := HC.out j hj
    have e1 := HWA.out
    have e2 := HS1.out
    refine ⟨h1, by have := k2.size; omega, ?_⟩
    rw [k2.cell (p := ⟨g, o + j, none⟩) (by show g < _; omega) (by show g ≠ _; omega), HK1.out.cell (p := ⟨g, o + j, none⟩) (by show g < _; omega) (by show g ≠ _; omega), h3])
  have hU32 : (Mc.under F (joined parts parts.length)).length = 32 := Mc.under_length _ _
  have hcs : (bcells (Mc.under F (joined parts parts.length))).toArray.size = 32 := by rw [List.size_toArray, bcells_length, hU32]
  have hall := bcells_all (Mc.under F (joined parts parts.length))
  have hUF : (bcells (Mc.code key.data.toList (joined parts parts.length))).toArray = (bcells (Mc.under F (joined parts parts.length))).toArray := by rw [Mc.code, HF.out]
  generalize (bcells (Mc.under F (joined parts parts.length))).toArray = cu at hsum hcs hall hUF
  have Hsum := Lib.hid hsum
  have HUF := Lib.hid hUF
  have Hall2 := Lib.hid hall
  have Hcs2 := Lib.hid hcs
  have HK2 := Lib.hid k2
  clear hsum hU32 hcs hall hUF k2
  generalize (bcells (padOf F)).toArray = pc at Hsum ⊢
  go_wp2_with fail
  refine Hsum.out.mono ?_
  rintro e w8 ⟨rfl, k8⟩
  have hR8 := (k8.block wa (by have := HS1.out; have := HK2.out.size; omega) (by have := HS1.out; have := HK2.out.size; omega)).trans ((HK2.out.block wa (by have := HS1.out; omega) (by have := HS1.out; omega)).trans HA.out)
  have hk8 : Kept w.heap.size w.heap.size w w8 := by
    have h1 := HWA.out
    have h2 := HS1.out
    have h3 := HK2.out.size
    rw [← h1]
    exact (HK1.out.trans (HK2.out.mono (by omega) (fun k hk _ => by omega))).trans (k8.mono (by omega) (fun k hk _ => by omega))
  have hz32 := zeros32_size
  generalize zeros32 = z at hR8 hz32
  have hcu := Hcs2.out
  go_wp2_with (with_reducible refine wpList_store_row rfl 25 _ _ rfl wa cu rfl rfl 25 _ hR8 (by rw [shaInfo30, hcu]) (by rw [hz32, hcu]) Hall2.out ?_)
  obtain ⟨t1, t2⟩ : Kept w.heap.size w.heap.size w (w8.setRow wa cu) ∧ (w8.setRow wa cu).heap[wa]? = some (.cells cu 25 (0, 0)) :=
    ⟨hk8.trans ⟨rfl, rfl, rfl, by simp [World.setRow], fun k hk _ => setRow_other w8 wa k cu (by have := HWA.out; omega)⟩, setRow_heap w8 wa z cu _ _ hR8⟩
  refine bodyPost_ret (results_cell_row rfl _ _ wa 25 cu (0, 0) _ rfl t2 Try.underlying25 rfl (by rw [shaInfo30, hcu])) rfl ?_
  exact ⟨by rw [HUF.out], t1⟩

end Go.Proofs.Ytdhebdahfnilkaa
