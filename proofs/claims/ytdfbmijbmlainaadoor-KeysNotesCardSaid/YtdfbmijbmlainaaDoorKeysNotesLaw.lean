/-
  The law KeysNotes.
-/
import Derived.Test.YtdfbmijbmlainaaDoorKD
import Derived.Test.YtdfbmijbmlainaaDoorKC
import Derived.Test.YtdfbmijbmlainaaDoorGG
import Derived.Deep.DeepCutAuto

namespace Go.Proofs.YtdfbmijbmlainaaDoor
open Go.RowKit Go.Lib

namespace Ky
theorem calm_22 : Calm 22 := by unfold Calm; decide
theorem calm_rs : Calm 29 := by unfold Calm; decide
/-- What is noted with the root of a row besides. -/
def ap (L : Facts) (k : List UInt8) (n : Int) : Facts := if 0 ≤ n ∧ n < 64 then Bk.note L ([k], [app k n.toNat]) else L
theorem ap_in (L : Facts) (k : List UInt8) (q : Nat) (hq : q < 64) : ap L k (q : Int) = Bk.note L ([k], [app k q]) := by
  rw [ap, if_pos (by omega), Int.toNat_natCast]
theorem ap_out (L : Facts) (k : List UInt8) (n : Int) (hn : ¬ (0 ≤ n ∧ n < 64)) : ap L k n = L := if_neg hn
theorem ap_length (L : Facts) (k : List UInt8) (n : Int) : (ap L k n).length ≤ L.length + 1 := by
  unfold ap
  split
  · exact bknote_length _ _
  · omega
theorem ap_ones {L : Facts} (h : Ones L) (k : List UInt8) (n : Int) : Ones (ap L k n) := by
  unfold ap
  split
  · exact h.note _ _
  · exact h
/-- Of which of the seven one asks. -/
def pick (j c : List UInt8) : List (List UInt8) := [key j c 3, key j c 4, key j c 5, key j c 6] ++ [j, key j c 2, key j c 1]
theorem pick_all {j : List UInt8} (hj : j.length = 32) (c : List UInt8) : ∀ x ∈ pick j c, x.length = 32 := fun x hx => by
  simp only [pick, List.cons_append, List.nil_append, List.mem_cons, List.not_mem_nil, or_false] at hx
  rcases hx with rfl | rfl | rfl | rfl | rfl | rfl | rfl <;> first | exact hj | exact key_length hj _ _
end Ky

set_option maxRecDepth 100000 in
set_option maxHeartbeats 51200000 in
theorem keysnotes_walk (j : List UInt8) (hj : j.length = 32) (cc : ByteArray) (n : Int) (b : Int) (lb : 0 ≤ b) (ub : b < 256) (w : World) (tab : Tab w) : Calls Tryd.prog 5 #[.agg (bcells j).toArray, .string cc, .int .i64 n, .int .u8 b] w fun e w' => e = .returned (.bool true) ∧ Kept w.heap.size w.heap.size w w' := by
  have HAW := Lib.hid (fun (x : World) (k : Kept w.heap.size w.heap.size w x) => keys_awake x (tab.onto11 k))
  have HLJ := Lib.hid (fun (u : World) (b : Nat) (h : u.heap[b]? = some (.cells (bcells j).toArray 23 (0, 0))) => load_hash11 hj h)
  by_cases hz : cc.size ≤ 5000
  · have hl : decide ((cc.size : Int) > 5000) = false := decide_eq_false (by omega)
    have HMB := Lib.hid (fun (x : World) (base bb : Nat) (hB : InBook x base bb [] 0) (hb : base ≤ x.heap.size) => make_book11 base bb 0 [] j hj cc (by omega) x hB hb ⟨by decide, by decide, fun _ h => nomatch h⟩)
    have HMR := Lib.hid (fun x => refmake_calls11 j hj cc (by omega) x)
    obtain ⟨c, hc⟩ : ∃ c, c = cc.data.toList := ⟨_, rfl⟩
    rw [← hc] at HMB HMR
    clear hc
    have hfl : (Ky.secs j c).length = 224 := Ky.flat_len hj _ 6
    have HIR := Lib.hid (rsecInfo hfl)
    have HZF := Lib.hid (secSize hfl)
    have HAF := Lib.hid (bcells_all (Ky.secs j c))
    obtain ⟨i0, z0, hi0, hz0, hzs0, hs0, hb0⟩ := book_info
    have HI0 := Lib.hid hi0
    have HZ0 := Lib.hid hz0
    have HS0 := Lib.hid hs0
    obtain ⟨i1, z9, hi1, hz1, hzs1, hs1, hb1⟩ := hash_info
    have HI1 := Lib.hid hi1
    have HZ1h := Lib.hid hz1
    have HS1 := Lib.hid hs1
    have gd := macGuard25
    have HK0 := Lib.hid (fun (u : World) (b : Nat) (h : u.heap[b]? = some (.cells (bcells (Ky.secs j c)).toArray 29 (0, 0))) => (show (loadVar 22 ⟨b, 0, none⟩).run Tryd.prog u = .ok (.agg (bcells j).toArray) u from load_sec22 (Ky.st_all hj c 6) h 0 _ rfl))
    have HK1 := Lib.hid (fun (u : World) (b : Nat) (h : u.heap[b]? = some (.cells (bcells (Ky.secs j c)).toArray 29 (0, 0))) => (show (loadVar 22 ⟨b, 32, none⟩).run Tryd.prog u = .ok (.agg (bcells (Ky.key j c 1)).toArray) u from load_sec22 (Ky.st_all hj c 6) h 1 _ rfl))
    have HK2 := Lib.hid (fun (u : World) (b : Nat) (h : u.heap[b]? = some (.cells (bcells (Ky.secs j c)).toArray 29 (0, 0))) => (show (loadVar 22 ⟨b, 64, none⟩).run Tryd.prog u = .ok (.agg (bcells (Ky.key j c 2)).toArray) u from load_sec22 (Ky.st_all hj c 6) h 2 _ rfl))
    have HK3 := Lib.hid (fun (u : World) (b : Nat) (h : u.heap[b]? = some (.cells (bcells (Ky.secs j c)).toArray 29 (0, 0))) => (show (loadVar 22 ⟨b, 96, none⟩).run Tryd.prog u = .ok (.agg (bcells (Ky.key j c 3)).toArray) u from load_sec22 (Ky.st_all hj c 6) h 3 _ rfl))
    have HK4 := Lib.hid (fun (u : World) (b : Nat) (h : u.heap[b]? = some (.cells (bcells (Ky.secs j c)).toArray 29 (0, 0))) => (show (loadVar 22 ⟨b, 128, none⟩).run Tryd.prog u = .ok (.agg (bcells (Ky.key j c 4)).toArray) u from load_sec22 (Ky.st_all hj c 6) h 4 _ rfl))
    have HK5 := Lib.hid (fun (u : World) (b : Nat) (h : u.heap[b]? = some (.cells (bcells (Ky.secs j c)).toArray 29 (0, 0))) => (show (loadVar 22 ⟨b, 160, none⟩).run Tryd.prog u = .ok (.agg (bcells (Ky.key j c 5)).toArray) u from load_sec22 (Ky.st_all hj c 6) h 5 _ rfl))
    have HK6 := Lib.hid (fun (u : World) (b : Nat) (h : u.heap[b]? = some (.cells (bcells (Ky.secs j c)).toArray 29 (0, 0))) => (show (loadVar 22 ⟨b, 192, none⟩).run Tryd.prog u = .ok (.agg (bcells (Ky.key j c 6)).toArray) u from load_sec22 (Ky.st_all hj c 6) h 6 _ rfl))
    have HZ00 := Lib.hid (show (bcells j).toArray.size = 32 by rw [List.size_toArray, bcells_length, hj])
    have HZ1 := Lib.hid (show (bcells (Ky.key j c 1)).toArray.size = 32 by rw [List.size_toArray, bcells_length, Ky.key_length hj])
    have HZ2 := Lib.hid (show (bcells (Ky.key j c 2)).toArray.size = 32 by rw [List.size_toArray, bcells_length, Ky.key_length hj])
    have HZ3 := Lib.hid (show (bcells (Ky.key j c 3)).toArray.size = 32 by rw [List.size_toArray, bcells_length, Ky.key_length hj])
    have HZ4 := Lib.hid (show (bcells (Ky.key j c 4)).toArray.size = 32 by rw [List.size_toArray, bcells_length, Ky.key_length hj])
    have HZ5 := Lib.hid (show (bcells (Ky.key j c 5)).toArray.size = 32 by rw [List.size_toArray, bcells_length, Ky.key_length hj])
    have HZ6 := Lib.hid (show (bcells (Ky.key j c 6)).toArray.size = 32 by rw [List.size_toArray, bcells_length, Ky.key_length hj])
    have HN0 := Lib.hid (fun b2 bb n gs L0 rs (x : World) (v : Value) (h : Kn w b2 bb n gs L0 rs x v (Ky.mf [] j c 0)) (ga gm : Nat) (ra : x.heap[ga]? = some (.cells (bcells j).toArray 22 (0, 0))) (rm : x.heap[gm]? = some (.cells (bcells (Ky.key j c 1)).toArray 22 (0, 0))) => (show Calls Tryd.prog 23 #[v, .agg #[.slice (some ⟨ga, 0, none⟩) 1 1, .slice (some ⟨gm, 0, none⟩) 1 1]] x fun e w' => ∃ u, e = .returned (.tuple #[u, .int .i64 0]) ∧ Kn w b2 bb n gs L0 rs w' u (Ky.mf [] j c 1) from h.note (by have := Ky.mf_length j c 0; omega) (Ky.mf_ones j c 0) _ _ hj (Ky.key_length hj _ _) ga gm ra rm))
    have HN1 := Lib.hid (fun b2 bb n gs L0 rs (x : World) (v : Value) (h : Kn w b2 bb n gs L0 rs x v (Ky.mf [] j c 1)) (ga gm : Nat) (ra : x.heap[ga]? = some (.cells (bcells j).toArray 22 (0, 0))) (rm : x.heap[gm]? = some (.cells (bcells (Ky.key j c 2)).toArray 22 (0, 0))) => (show Calls Tryd.prog 23 #[v, .agg #[.slice (some ⟨ga, 0, none⟩) 1 1, .slice (some ⟨gm, 0, none⟩) 1 1]] x fun e w' => ∃ u, e = .returned (.tuple #[u, .int .i64 0]) ∧ Kn w b2 bb n gs L0 rs w' u (Ky.mf [] j c 2) from h.note (by have := Ky.mf_length j c 1; omega) (Ky.mf_ones j c 1) _ _ hj (Ky.key_length hj _ _) ga gm ra rm))
    have HNN := Lib.hid (fun (i : Nat) (hi : i < 4) b2 bb n gs L0 rs (x : World) (v : Value) (h : Kn w b2 bb n gs L0 rs x v (Ky.mf [] j c (i + 2))) (ga gm : Nat) (ra : x.heap[ga]? = some (.cells (bcells (Ky.key j c 2)).toArray 22 (0, 0))) (rm : x.heap[gm]? = some (.cells (bcells (Ky.key j c (i + 3))).toArray 22 (0, 0))) => (show Calls Tryd.prog 23 #[v, .agg #[.slice (some ⟨ga, 0, none⟩) 1 1, .slice (some ⟨gm, 0, none⟩) 1 1]] x fun e w' => ∃ u, e = .returned (.tuple #[u, .int .i64 0]) ∧ Kn w b2 bb n gs L0 rs w' u (Ky.mf [] j c (i + 2 + 1)) from h.note (by have := Ky.mf_length j c (i + 2); omega) (Ky.mf_ones j c (i + 2)) _ _ (Ky.key_length hj _ _) (Ky.key_length hj _ _) ga gm ra rm))
    have HB4 := Lib.hid (fun (x : World) => run_build_four (P := Tryd.prog) x 47 22 i0 z0 Tryd.underlying47 hi0 hz0 (bcells (Ky.key j c 3)).toArray (bcells (Ky.key j c 4)).toArray (bcells (Ky.key j c 5)).toArray (bcells (Ky.key j c 6)).toArray (by rw [hs0]; exact HZ3.out) (by rw [hs0]; exact HZ4.out) (by rw [hs0]; exact HZ5.out) (by rw [hs0]; exact HZ6.out) (by rw [hs0]; decide) (by rw [hs0]; decide))
    have HB3 := Lib.hid (fun (x : World) => run_build_three (P := Tryd.prog) x 47 22 i0 z0 Tryd.underlying47 hi0 hz0 (bcells j).toArray (bcells (Ky.key j c 2)).toArray (bcells (Ky.key j c 1)).toArray (by rw [hs0]; exact HZ00.out) (by rw [hs0]; exact HZ2.out) (by rw [hs0]; exact HZ1.out) (by rw [hs0]; decide) (by rw [hs0]; decide))
    have hal : ((bcells (Ky.key j c 3)).toArray.toList ++ (bcells (Ky.key j c 4)).toArray.toList ++ (bcells (Ky.key j c 5)).toArray.toList ++ (bcells (Ky.key j c 6)).toArray.toList).toArray = (bcells [Ky.key j c 3, Ky.key j c 4, Ky.key j c 5, Ky.key j c 6].flatten).toArray := by simp [bcells]
    have hxl : ((bcells j).toArray.toList ++ (bcells (Ky.key j c 2)).toArray.toList ++ (bcells (Ky.key j c 1)).toArray.toList).toArray = (bcells [j, Ky.key j c 2, Ky.key j c 1].flatten).toArray := by simp [bcells]
    rw [hal] at HB4
    rw [hxl] at HB3
    have h4 : ∀ x ∈ [Ky.key j c 3, Ky.key j c 4, Ky.key j c 5, Ky.key j c 6], x.length = 32 := fun x hx => Ky.pick_all hj c x (List.mem_append_left _ hx)
    have h3 : ∀ x ∈ [j, Ky.key j c 2, Ky.key j c 1], x.length = 32 := fun x hx => Ky.pick_all hj c x (List.mem_append_right _ hx)
    have HAP := Lib.hid (fun (x : World) (g q : Nat) (h : x.heap[g]? = some (.cells (bcells [Ky.key j c 3, Ky.key j c 4, Ky.key j c 5, Ky.key j c 6].flatten).toArray 22 (0, 0))) (hb : x.heap[q]? = some (.cells (bcells [j, Ky.key j c 2, Ky.key j c 1].flatten).toArray 22 (0, 0))) => append_full43 x g q _ _ h4 h3 rfl rfl h hb)
    have HLA := Lib.hid (fun (i : Nat) (hi : i < 4) (u : World) (b : Nat) (h : u.heap[b]? = some (.cells (bcells [Ky.key j c 3, Ky.key j c 4, Ky.key j c 5, Ky.key j c 6].flatten).toArray 22 (0, 0))) => (show (loadVar 22 ⟨b, i * 32, none⟩).run Tryd.prog u = .ok (.agg (bcells (Ky.key j c (i + 3))).toArray) u from by
      rw [Nat.mul_comm]
      refine load_sec22 h4 h i _ ?_
      match i, hi with
      | 0, _ => rfl
      | 1, _ => rfl
      | 2, _ => rfl
      | 3, _ => rfl))
    have HZN := Lib.hid (fun (i : Nat) (_ : i < 4) => (show (bcells (Ky.key j c (i + 3))).toArray.size = 32 by rw [List.size_toArray, bcells_length, Ky.key_length hj]))
    obtain ⟨G, hG⟩ : ∃ G, G = Ky.ap (Ky.mf [] j c 6) (Ky.key j c 5) n := ⟨_, rfl⟩
    have HGIN := Lib.hid (fun (q : Nat) (hq : q < 64) (hnq : n = (q : Int)) => (show G = Bk.note (Ky.mf [] j c 6) ([Ky.key j c 5], [Ky.app (Ky.key j c 5) q]) by rw [hG, hnq]; exact Ky.ap_in _ _ q hq))
    have HGOUT := Lib.hid (fun (hn : ¬ (0 ≤ n ∧ n < 64)) => (show G = Ky.mf [] j c 6 by rw [hG]; exact Ky.ap_out _ _ n hn))
    have hGl : G.length ≤ 7 := by
      have := Ky.ap_length (Ky.mf [] j c 6) (Ky.key j c 5) n
      have := Ky.mf_length j c 6
      rw [hG]
      omega
    have hG1 : Ky.Ones G := by rw [hG]; exact Ky.ap_ones (Ky.mf_ones j c 6) _ _
    have HAP5 := Lib.hid (fun (x : World) (base bb : Nat) (hB : InBook x base bb (Ky.mf [] j c 6) 18) (hb : base ≤ x.heap.size) (kx : Kept w.heap.size w.heap.size w x) => (show Calls Tryd.prog 12 #[.pointer (some ⟨bb, 0, none⟩), .agg (bcells (Ky.key j c 5)).toArray, .int .i64 n] x fun e w' => ∃ D, e = .returned (.agg D) ∧ InBook w' base bb G 21 ∧ BkFr base x w' from by
      rw [hG]
      by_cases hn : 0 ≤ n ∧ n < 64
      · obtain ⟨q, rfl⟩ : ∃ q : Nat, n = (q : Int) := ⟨n.toNat, by omega⟩
        rw [Ky.ap_in _ _ q (by omega)]
        refine (app_book11 base bb 18 (Ky.mf [] j c 6) (Ky.key j c 5) (Ky.key_length hj _ _) q (by omega) x (tab.onto11 kx) hB hb ⟨by decide, by have := Ky.mf_length j c 6; omega, fun f hf => by have := Ky.mf_ones j c 6 f hf; omega⟩).mono ?_
        rintro e w' ⟨rfl, h1, h2⟩
        exact ⟨_, rfl, h1, h2⟩
      · rw [Ky.ap_out _ _ n hn]
        refine (app_bad11 (some ⟨bb, 0, none⟩) (Ky.key j c 5) n (by omega) x).mono ?_
        rintro e w' ⟨rfl, k⟩
        exact ⟨_, rfl, (hB.kept k).more (by decide), BkFr.ofKept hb k⟩))
    have HRAP := Lib.hid (fun (q : Nat) (hq : q < 64) (x : World) => refapp_calls11 (Ky.key j c 5) (Ky.key_length hj _ _) q hq x)
    have HNAP := Lib.hid (fun (q : Nat) (_ : q < 64) b2 bb n gs L0 rs (x : World) (v : Value) (h : Kn w b2 bb n gs L0 rs x v (Ky.mf [] j c 6)) (ga gm : Nat) (ra : x.heap[ga]? = some (.cells (bcells (Ky.key j c 5)).toArray 22 (0, 0))) (rm : x.heap[gm]? = some (.cells (bcells (Ky.app (Ky.key j c 5) q)).toArray 22 (0, 0))) => h.note (by have := Ky.mf_length j c 6; omega) (Ky.mf_ones j c 6) _ _ (Ky.key_length hj _ _) (Ky.app_length _ _) ga gm ra rm)
    have HLN := Lib.hid (fun (x : World) (base bb : Nat) (hB : InBook x base bb G 21) => (show Calls Tryd.prog 27 #[.pointer (some ⟨bb, 0, none⟩)] x fun e w' => e = .returned (.int .i64 (G.length : Nat)) ∧ w' = x from by
      obtain ⟨n', _, S, h3⟩ := hB
      exact len_calls base bb n' G _ S x h3))
    obtain ⟨bn, rfl⟩ : ∃ bn : Nat, b = (bn : Int) := ⟨b.toNat, by omega⟩
    obtain ⟨dn, hdn⟩ : ∃ dn, dn = bn % 7 := ⟨_, rfl⟩
    have hd7 : dn < 7 := by omega
    obtain ⟨fk, hfk⟩ : ∃ fk, fk = (Ky.pick j c)[dn]'hd7 := ⟨_, rfl⟩
    have hfk32 : fk.length = 32 := by rw [hfk]; exact Ky.pick_all hj c _ (List.getElem_mem _)
    have HPICK := Lib.hid (fun (u : World) (g : Nat) (h : ∀ d (hd : d < ([Ky.key j c 3, Ky.key j c 4, Ky.key j c 5, Ky.key j c 6] ++ [j, Ky.key j c 2, Ky.key j c 1]).length), u.rangeAt g (d * 32) (bcells ([Ky.key j c 3, Ky.key j c 4, Ky.key j c 5, Ky.key j c 6] ++ [j, Ky.key j c 2, Ky.key j c 1])[d])) => (show (loadVar 22 ⟨g, dn * 32, none⟩).run Tryd.prog u = .ok (.agg (bcells fk).toArray) u from by
      have h1 := h dn hd7
      rw [show ([Ky.key j c 3, Ky.key j c 4, Ky.key j c 5, Ky.key j c 6] ++ [j, Ky.key j c 2, Ky.key j c 1])[dn] = fk from hfk.symm] at h1
      exact run_loadVar_mid u g (dn * 32) 22 _ _ h1 Tryd.underlying22 rfl (by have := keyInfo22 hfk32; simpa using this)))
    have HLC22 := Lib.hid (fun (u : World) (b : Nat) (h : u.heap[b]? = some (.cells (bcells fk).toArray 22 (0, 0))) => load_arr11 hfk32 h)
    have HIC := Lib.hid (keyInfo22 hfk32)
    have HZC := Lib.hid (keySize11 hfk32)
    have HAC := Lib.hid (bcells_all fk)
    have HFC32 := Lib.hid (show (bcells fk).toArray.size = 32 by rw [List.size_toArray, bcells_length, hfk32])
    have hsm : ∀ f ∈ G, f.1.length < 1000000 ∧ f.2.length < 1000000 := fun f hf => by have := hG1 f hf; omega
    have hout := hG1.outs
    have HFO := Lib.hid (fun (x : World) (base bb : Nat) (hB : InBook x base bb G 21) (g : Nat) (h : x.heap[g]? = some (.cells (bcells fk).toArray 23 (0, 0))) => (show Calls Tryd.prog 25 #[.pointer (some ⟨bb, 0, none⟩), .slice (some ⟨g, 0, none⟩) 1 1] x fun e w' => ∃ r M, e = .returned r ∧ Hs w' r M ∧ Bk.Is G [fk] M ∧ Kept x.heap.size x.heap.size x w' from by
      obtain ⟨n', hn', S, h3⟩ := hB
      exact follows_book base bb n' G _ S [fk] _ x h3 (hs_one hfk32 h) (by show 1 + _ < _; omega) (by omega) (by omega) hsm))
    have HRF := Lib.hid (fun (x : World) (v : Value) (hF : Fs x v G) (g : Nat) (h : x.heap[g]? = some (.cells (bcells fk).toArray 22 (0, 0))) => reffollows_calls G [fk] v (.slice (some ⟨g, 0, none⟩) 1 1) x hF (own_one22 hfk32 h).hs (by show 1 + _ < _; omega) (by omega) hsm)
    have HLEN := Lib.hid (fun (M : List (List UInt8)) (hI : Bk.Is G [fk] M) => (show M.length < 1073741824 by have := is_length hI; have : ([fk] : List (List UInt8)).length = 1 := rfl; omega))
    have hrem : IntKind.i64.wrap ((bn : Int).tmod 7) = (dn : Int) := by rw [IntKind.wrap_i64]; rw [Int.tmod_eq_emod_of_nonneg (by omega)]; omega
    have hrem2 : (bn : Int).tmod 7 = (dn : Int) := by rw [Int.tmod_eq_emod_of_nonneg (by omega)]; omega
    have hwb : IntKind.i64.wrap (bn : Int) = (bn : Int) := by rw [IntKind.wrap_i64]; omega
    have hdi : (dn : Int) < 7 := by omega
    have hdi0 : ¬ (dn : Int) < 0 := by omega
    clear hdn hfk hsm hout hGl hG1 hG hi0 hz0 hzs0 hs0 hb0 hi1 hz1 hzs1 hs1 hb1 hal hxl h4 h3 hfl hfk32 lb ub hz
    generalize (bcells [Ky.key j c 3, Ky.key j c 4, Ky.key j c 5, Ky.key j c 6].flatten).toArray = al at HB4 HAP HLA
    generalize (bcells [j, Ky.key j c 2, Ky.key j c 1].flatten).toArray = xl at HB3 HAP
    generalize (bcells fk).toArray = fc at HPICK HLC22 HIC HZC HAC HFC32 HFO HRF
    generalize (bcells (Ky.secs j c)).toArray = fu at HMB HMR HIR HZF HAF HK0 HK1 HK2 HK3 HK4 HK5 HK6
    generalize (bcells (Ky.key j c 1)).toArray = s1 at HK1 HZ1 HN0 HB3
    generalize (bcells (Ky.key j c 2)).toArray = s2 at HK2 HZ2 HN1 HNN HB3
    generalize (bcells (Ky.key j c 3)).toArray = s3 at HK3 HZ3 HB4
    generalize (bcells (Ky.key j c 4)).toArray = s4 at HK4 HZ4 HB4
    generalize (bcells (Ky.key j c 5)).toArray = s5 at HK5 HZ5 HB4 HAP5 HRAP HNAP
    generalize (bcells (Ky.key j c 6)).toArray = s6 at HK6 HZ6 HB4
    generalize (bcells j).toArray = jc at HLJ HMB HMR HK0 HZ00 HN0 HN1 HB3 ⊢
    clear hj tab hd7
    go_enter Tryd.func5, Tryd.ntmps5
    go_upto_region 0 with fail
    refine wp_region_lit ?_
    refine @BigFrame.wpList_want _ _ _ _ _ _ _ ?hw99001 ?_
    case hw99001 => kernel_rfl
    intro K hK
    go_simp
    refine hK _ _ ?_
    clear hK K
    have kn : Kept w.heap.size w.heap.size w (w.alloc (.cells jc 23)) := (Kept.refl _ _ _).alloc (Nat.le_refl _) _
    have rjb := heap_new w (.cells jc 23)
    have Kw1 := kn
    generalize w.alloc (.cells jc 23) = w1 at kn rjb Kw1  ⊢
    obtain ⟨jb, hjb⟩ : ∃ n, n = w.heap.size := ⟨_, rfl⟩
    rw [← hjb] at rjb
    (try rw [← hjb])
    clear hjb kn
    refine @BigFrame.wpList_want _ _ _ _ _ _ _ ?hw99002 ?_
    case hw99002 => kernel_rfl
    intro K hK
    go_simp
    refine hK _ _ ?_
    clear hK K
    have Rjb := Lib.hid rjb
    clear rjb
    have KW := Lib.hid Kw1
    clear Kw1
    go_upto_region 1 with fail
    refine wp_region_lit ?_
    refine @BigFrame.wpList_want _ _ _ _ _ _ _ ?hw99003 ?_
    case hw99003 => kernel_rfl
    intro K hK
    go_simp
    go_at_call 9
    refine (HAW.out _ KW.out).mono ?_
    rintro e x1 ⟨rfl, X1⟩
    refine hK _ _ ?_
    clear hK K
    refine @BigFrame.wpList_want _ _ _ _ _ _ _ ?hw99004 ?_
    case hw99004 => kernel_rfl
    intro K hK
    go_simp
    refine hK _ _ ?_
    clear hK K
    refine @BigFrame.wpList_want _ _ _ _ _ _ _ ?hw99005 ?_
    case hw99005 => kernel_rfl
    intro K hK
    go_simp
    refine hK _ _ ?_
    clear hK K
    refine @BigFrame.wpList_want _ _ _ _ _ _ _ ?hw99006 ?_
    case hw99006 => kernel_rfl
    intro K hK
    go_simp
    refine hK _ _ ?_
    clear hK K
    refine @BigFrame.wpList_want _ _ _ _ _ _ _ ?hw99007 ?_
    case hw99007 => kernel_rfl
    intro K hK
    go_simp
    refine hK _ _ ?_
    clear hK K
    refine @BigFrame.wpList_want _ _ _ _ _ _ _ ?hw99008 ?_
    case hw99008 => kernel_rfl
    intro K hK
    go_simp
    refine hK _ _ ?_
    clear hK K
    refine @BigFrame.wpList_want _ _ _ _ _ _ _ ?hw99009 ?_
    case hw99009 => kernel_rfl
    intro K hK
    go_simp
    refine hK _ _ ?_
    clear hK K
    have K1 := Lib.hid (KW.out.onto X1)
    replace Rjb := Lib.hid (row_kept Rjb.out X1)
    clear X1 KW
    go_upto_region 3 with fail
    refine wp_region_lit ?_
    refine @BigFrame.wpList_want _ _ _ _ _ _ _ ?hw99012 ?_
    case hw99012 => kernel_rfl
    intro K hK
    go_simp
    go_at_call 22
    refine (new_book x1).mono ?_
    rintro e w3 ⟨bb, S, rfl, hB, k3⟩
    have K3 := Lib.hid (K1.out.onto k3)
    replace Rjb := Lib.hid (row_kept Rjb.out k3)
    have B3 : Hid (InBook w3 x1.heap.size bb [] 0) := Lib.hid ⟨0, Nat.le_refl _, S, hB⟩
    have S3 := Lib.hid k3.size
    have W3 := Lib.hid K1.out.size
    clear hB k3 S K1
    generalize x1.heap.size = b2 at B3 S3 W3
    refine hK _ _ ?_
    clear hK K
    refine @BigFrame.wpList_want _ _ _ _ _ _ _ ?hw99013 ?_
    case hw99013 => kernel_rfl
    intro K hK
    go_simp
    refine hK _ _ ?_
    clear hK K
    go_upto_region 4 with fail
    refine wp_region_lit ?_
    refine @BigFrame.wpList_want _ _ _ _ _ _ _ ?hw99015 ?_
    case hw99015 => kernel_rfl
    intro K hK
    go_simp
    refine hK _ _ ?_
    clear hK K
    refine @wpList_load_known _ _ _ _ _ _ _ ?hw99016 23 (.tmp 4) rfl (jb) (0) rfl (.agg jc) (HLJ.out _ _ Rjb.out) ?_
    case hw99016 => kernel_rfl
    simp only [Act.put, List.setIfInBounds_toArray, List.set_cons_zero, List.set_cons_succ]
    refine @BigFrame.wpList_want _ _ _ _ _ _ _ ?hw99017 ?_
    case hw99017 => kernel_rfl
    intro K hK
    go_simp
    refine hK _ _ ?_
    clear hK K
    refine @BigFrame.wpList_want _ _ _ _ _ _ _ ?hw99014 ?_
    case hw99014 => kernel_rfl
    intro K hK
    go_simp
    go_at_call 10
    refine (HMB.out w3 b2 bb B3.out S3.out).mono ?_
    rintro e w4 ⟨rfl, q4, f4⟩
    have B4 := Lib.hid q4
    have K4 := Lib.hid (K3.out.trans (f4.kept.mono W3.out (fun i hi _ => Nat.ne_of_lt (Nat.lt_of_lt_of_le hi W3.out))))
    have S4 := Lib.hid (Nat.le_trans S3.out f4.kept.size)
    replace Rjb := Lib.hid (f4.row Rjb.out)
    clear q4 f4 B3 K3 S3
    refine hK _ _ ?_
    clear hK K
    go_upto_region 5 with fail
    refine wp_region_lit ?_
    refine @wpList_load_known _ _ _ _ _ _ _ ?hw99019 23 (.tmp 4) rfl (jb) (0) rfl (.agg jc) (HLJ.out _ _ Rjb.out) ?_
    case hw99019 => kernel_rfl
    simp only [Act.put, List.setIfInBounds_toArray, List.set_cons_zero, List.set_cons_succ]
    refine @BigFrame.wpList_want _ _ _ _ _ _ _ ?hw99020 ?_
    case hw99020 => kernel_rfl
    intro K hK
    go_simp
    refine hK _ _ ?_
    clear hK K
    refine @BigFrame.wpList_want _ _ _ _ _ _ _ ?hw99018 ?_
    case hw99018 => kernel_rfl
    intro K hK
    go_simp
    go_at_call 11
    refine (HMR.out _).mono ?_
    rintro e w5 ⟨rfl, k5⟩
    have B5 := Lib.hid (B4.out.kept k5)
    have K5 := Lib.hid (K4.out.onto k5)
    have S5 := Lib.hid (Nat.le_trans S4.out k5.size)
    clear k5 B4 K4 S4 Rjb
    refine hK _ _ ?_
    clear hK K
    refine @wpL_alloc _ _ _ _ _ _ _ _ ?hw99021 29 rfl _ (alloc_rsecs _) ?_
    case hw99021 => kernel_rfl
    simp only [Act.put, List.setIfInBounds_toArray, List.set_cons_zero, List.set_cons_succ]
    refine wpList_store_row rfl 29 _ _ rfl (w5.heap.size) fu rfl rfl 29 zeros224 (heap_new _ _) (HIR.out) (HZF.out) (HAF.out) ?_
    simp only [Act.put]
    rw [World.setRow_alloc_new]
    have kn : Kept w5.heap.size w5.heap.size w5 (w5.alloc (.cells fu 29)) := (Kept.refl _ _ _).alloc (Nat.le_refl _) _
    have N6 : Hid (Kn w b2 bb 18 (Ky.mf [] j c 6) (w5.alloc (.cells fu 29)).heap.size [(w5.heap.size, fu, 29)] (w5.alloc (.cells fu 29)) (.slice none 0 0) (Ky.mf [] j c 0)) := Lib.hid ⟨K5.out.onto kn, B5.out.kept kn, fun p hp => by
      rw [List.mem_singleton.1 hp]
      exact ⟨heap_new _ _, Ky.calm_rs⟩, OwnF.nil _ _, Nat.le_refl _, (K5.out.onto kn).size, W3.out, Nat.le_trans S5.out kn.size⟩
    clear kn B5 K5 S5 W3
    generalize w5.alloc (.cells fu 29) = w6 at N6 ⊢
    generalize w6.heap.size = L0 at N6
    generalize w5.heap.size = mb at N6 ⊢
    as_aux_lemma =>
      go_upto_region 7 with fail
      refine wp_region_lit ?_
      refine @BigFrame.wpList_want _ _ _ _ _ _ _ ?hw99026 ?_
      case hw99026 => kernel_rfl
      intro K hK
      go_simp
      refine hK _ _ ?_
      clear hK K
      refine @BigFrame.wpList_want _ _ _ _ _ _ _ ?hw99027 ?_
      case hw99027 => kernel_rfl
      intro K hK
      go_simp
      refine hK _ _ ?_
      clear hK K
      refine @wpList_load_known _ _ _ _ _ _ _ ?hw99028 22 (.tmp 36) rfl (mb) (32) rfl (.agg s1) (HK1.out _ _ (N6.out.rw _ (List.mem_cons_self ..)).1) ?_
      case hw99028 => kernel_rfl
      simp only [Act.put, List.setIfInBounds_toArray, List.set_cons_zero, List.set_cons_succ]
      refine @BigFrame.wpList_want _ _ _ _ _ _ _ ?hw99022 ?_
      case hw99022 => kernel_rfl
      intro K hK
      refine wp_build_one _ 47 22 rfl i0 z0 Tryd.underlying47 HI0.out HZ0.out s1 rfl (by rw [HS0.out]; exact HZ1.out) (by rw [HS0.out]; decide) (by rw [HS0.out]; decide) ?_
      refine hK _ _ ?_
      clear hK K
      simp only [Act.put, List.setIfInBounds_toArray, List.set_cons_zero, List.set_cons_succ]
      have kn : Kept w6.heap.size w6.heap.size w6 (w6.alloc (.cells s1 22)) := (Kept.refl _ _ _).alloc (Nat.le_refl _) _
      have Rgoy := Lib.hid (heap_new w6 (.cells s1 22))
      have Ny1 := Lib.hid (N6.out.kept kn)
      clear kn
      generalize w6.alloc (.cells s1 22) = y1 at Rgoy Ny1   ⊢
      generalize w6.heap.size = goy at Rgoy ⊢
      refine @BigFrame.wpList_want _ _ _ _ _ _ _ ?hw99029 ?_
      case hw99029 => kernel_rfl
      intro K hK
      go_simp
      refine hK _ _ ?_
      clear hK K
      refine @wpList_load_known _ _ _ _ _ _ _ ?hw99030 22 (.tmp 39) rfl (mb) (0) rfl (.agg jc) (HK0.out _ _ (Ny1.out.rw _ (List.mem_cons_self ..)).1) ?_
      case hw99030 => kernel_rfl
      simp only [Act.put, List.setIfInBounds_toArray, List.set_cons_zero, List.set_cons_succ]
      refine @BigFrame.wpList_want _ _ _ _ _ _ _ ?hw99023 ?_
      case hw99023 => kernel_rfl
      intro K hK
      refine wp_build_one _ 47 22 rfl i0 z0 Tryd.underlying47 HI0.out HZ0.out jc rfl (by rw [HS0.out]; exact HZ00.out) (by rw [HS0.out]; decide) (by rw [HS0.out]; decide) ?_
      refine hK _ _ ?_
      clear hK K
      simp only [Act.put, List.setIfInBounds_toArray, List.set_cons_zero, List.set_cons_succ]
      have kn : Kept y1.heap.size y1.heap.size y1 (y1.alloc (.cells jc 22)) := (Kept.refl _ _ _).alloc (Nat.le_refl _) _
      have Rgiy := Lib.hid (heap_new y1 (.cells jc 22))
      have Ny2 := Lib.hid (Ny1.out.kept kn)
      replace Rgoy := Lib.hid (row_kept Rgoy.out kn)
      clear kn
      generalize y1.alloc (.cells jc 22) = y2 at Rgiy Ny2 Rgoy  ⊢
      generalize y1.heap.size = giy at Rgiy ⊢
      refine @BigFrame.wpList_want _ _ _ _ _ _ _ ?hw99024 ?_
      case hw99024 => kernel_rfl
      intro K hK
      go_simp
      go_at_call 24
      refine (made_calls goy giy _).mono ?_
      rintro e y3 ⟨rfl, k3⟩
      have Ny3 := Lib.hid (Ny2.out.kept k3)
      replace Rgoy := Lib.hid (row_kept Rgoy.out k3)
      replace Rgiy := Lib.hid (row_kept Rgiy.out k3)
      clear k3
      refine hK _ _ ?_
      clear hK K
      refine @BigFrame.wpList_want _ _ _ _ _ _ _ ?hw99025 ?_
      case hw99025 => kernel_rfl
      intro K hK
      go_simp
      go_at_call 23
      refine (HN0.out _ _ _ _ _ _ _ _ Ny3.out giy goy Rgiy.out Rgoy.out).mono ?_
      rintro e y4 ⟨u, rfl, n4⟩
      have Ny4 := Lib.hid n4
      obtain ⟨vad, vc, rfl⟩ := n4.shape
      clear n4 Ny1 Ny2 Ny3 Rgoy Rgiy
      refine hK _ _ ?_
      clear hK K
      refine @BigFrame.wpList_want _ _ _ _ _ _ _ ?hw99031 ?_
      case hw99031 => kernel_rfl
      intro K hK
      go_simp
      refine hK _ _ ?_
      clear hK K
      refine @BigFrame.wpList_want _ _ _ _ _ _ _ ?hw99032 ?_
      case hw99032 => kernel_rfl
      intro K hK
      go_simp
      refine hK _ _ ?_
      clear hK K
      refine @BigFrame.wpList_want _ _ _ _ _ _ _ ?hw99033 ?_
      case hw99033 => kernel_rfl
      intro K hK
      go_simp
      refine hK _ _ ?_
      clear hK K
      refine @BigFrame.wpList_want _ _ _ _ _ _ _ ?hw99034 ?_
      case hw99034 => kernel_rfl
      intro K hK
      go_simp
      refine hK _ _ ?_
      clear hK K
      as_aux_lemma =>
        go_upto_region 8 with fail
        refine wp_region_lit ?_
        refine @BigFrame.wpList_want _ _ _ _ _ _ _ ?hw99039 ?_
        case hw99039 => kernel_rfl
        intro K hK
        go_simp
        refine hK _ _ ?_
        clear hK K
        refine @BigFrame.wpList_want _ _ _ _ _ _ _ ?hw99040 ?_
        case hw99040 => kernel_rfl
        intro K hK
        go_simp
        refine hK _ _ ?_
        clear hK K
        refine @wpList_load_known _ _ _ _ _ _ _ ?hw99041 22 (.tmp 48) rfl (mb) (64) rfl (.agg s2) (HK2.out _ _ (Ny4.out.rw _ (List.mem_cons_self ..)).1) ?_
        case hw99041 => kernel_rfl
        simp only [Act.put, List.setIfInBounds_toArray, List.set_cons_zero, List.set_cons_succ]
        refine @BigFrame.wpList_want _ _ _ _ _ _ _ ?hw99035 ?_
        case hw99035 => kernel_rfl
        intro K hK
        refine wp_build_one _ 47 22 rfl i0 z0 Tryd.underlying47 HI0.out HZ0.out s2 rfl (by rw [HS0.out]; exact HZ2.out) (by rw [HS0.out]; decide) (by rw [HS0.out]; decide) ?_
        refine hK _ _ ?_
        clear hK K
        simp only [Act.put, List.setIfInBounds_toArray, List.set_cons_zero, List.set_cons_succ]
        have kn : Kept y4.heap.size y4.heap.size y4 (y4.alloc (.cells s2 22)) := (Kept.refl _ _ _).alloc (Nat.le_refl _) _
        have Rgoz := Lib.hid (heap_new y4 (.cells s2 22))
        have Nz1 := Lib.hid (Ny4.out.kept kn)
        clear kn
        generalize y4.alloc (.cells s2 22) = z1 at Rgoz Nz1   ⊢
        generalize y4.heap.size = goz at Rgoz ⊢
        refine @BigFrame.wpList_want _ _ _ _ _ _ _ ?hw99042 ?_
        case hw99042 => kernel_rfl
        intro K hK
        go_simp
        refine hK _ _ ?_
        clear hK K
        refine @wpList_load_known _ _ _ _ _ _ _ ?hw99043 22 (.tmp 51) rfl (mb) (0) rfl (.agg jc) (HK0.out _ _ (Nz1.out.rw _ (List.mem_cons_self ..)).1) ?_
        case hw99043 => kernel_rfl
        simp only [Act.put, List.setIfInBounds_toArray, List.set_cons_zero, List.set_cons_succ]
        refine @BigFrame.wpList_want _ _ _ _ _ _ _ ?hw99036 ?_
        case hw99036 => kernel_rfl
        intro K hK
        refine wp_build_one _ 47 22 rfl i0 z0 Tryd.underlying47 HI0.out HZ0.out jc rfl (by rw [HS0.out]; exact HZ00.out) (by rw [HS0.out]; decide) (by rw [HS0.out]; decide) ?_
        refine hK _ _ ?_
        clear hK K
        simp only [Act.put, List.setIfInBounds_toArray, List.set_cons_zero, List.set_cons_succ]
        have kn : Kept z1.heap.size z1.heap.size z1 (z1.alloc (.cells jc 22)) := (Kept.refl _ _ _).alloc (Nat.le_refl _) _
        have Rgiz := Lib.hid (heap_new z1 (.cells jc 22))
        have Nz2 := Lib.hid (Nz1.out.kept kn)
        replace Rgoz := Lib.hid (row_kept Rgoz.out kn)
        clear kn
        generalize z1.alloc (.cells jc 22) = z2 at Rgiz Nz2 Rgoz  ⊢
        generalize z1.heap.size = giz at Rgiz ⊢
        refine @BigFrame.wpList_want _ _ _ _ _ _ _ ?hw99037 ?_
        case hw99037 => kernel_rfl
        intro K hK
        go_simp
        go_at_call 24
        refine (made_calls goz giz _).mono ?_
        rintro e z3 ⟨rfl, k3⟩
        have Nz3 := Lib.hid (Nz2.out.kept k3)
        replace Rgoz := Lib.hid (row_kept Rgoz.out k3)
        replace Rgiz := Lib.hid (row_kept Rgiz.out k3)
        clear k3
        refine hK _ _ ?_
        clear hK K
        refine @BigFrame.wpList_want _ _ _ _ _ _ _ ?hw99038 ?_
        case hw99038 => kernel_rfl
        intro K hK
        go_simp
        go_at_call 23
        refine (HN1.out _ _ _ _ _ _ _ _ Nz3.out giz goz Rgiz.out Rgoz.out).mono ?_
        rintro e z4 ⟨u, rfl, n4⟩
        have Nz4 := Lib.hid n4
        obtain ⟨vad, vc, rfl⟩ := n4.shape
        clear n4 Nz1 Nz2 Nz3 Rgoz Rgiz
        refine hK _ _ ?_
        clear hK K
        refine @BigFrame.wpList_want _ _ _ _ _ _ _ ?hw99044 ?_
        case hw99044 => kernel_rfl
        intro K hK
        go_simp
        refine hK _ _ ?_
        clear hK K
        refine @BigFrame.wpList_want _ _ _ _ _ _ _ ?hw99045 ?_
        case hw99045 => kernel_rfl
        intro K hK
        go_simp
        refine hK _ _ ?_
        clear hK K
        refine @BigFrame.wpList_want _ _ _ _ _ _ _ ?hw99046 ?_
        case hw99046 => kernel_rfl
        intro K hK
        go_simp
        refine hK _ _ ?_
        clear hK K
        refine @BigFrame.wpList_want _ _ _ _ _ _ _ ?hw99047 ?_
        case hw99047 => kernel_rfl
        intro K hK
        go_simp
        refine hK _ _ ?_
        clear hK K
        as_aux_lemma =>
          go_upto_region 9 with fail
          refine wp_region_lit ?_
          refine @BigFrame.wpList_want _ _ _ _ _ _ _ ?hw99049 ?_
          case hw99049 => kernel_rfl
          intro K hK
          go_simp
          refine hK _ _ ?_
          clear hK K
          refine @wpList_load_known _ _ _ _ _ _ _ ?hw99050 22 (.tmp 58) rfl (mb) (96) rfl (.agg s3) (HK3.out _ _ (Nz4.out.rw _ (List.mem_cons_self ..)).1) ?_
          case hw99050 => kernel_rfl
          simp only [Act.put, List.setIfInBounds_toArray, List.set_cons_zero, List.set_cons_succ]
          refine @BigFrame.wpList_want _ _ _ _ _ _ _ ?hw99051 ?_
          case hw99051 => kernel_rfl
          intro K hK
          go_simp
          refine hK _ _ ?_
          clear hK K
          refine @wpList_load_known _ _ _ _ _ _ _ ?hw99052 22 (.tmp 60) rfl (mb) (128) rfl (.agg s4) (HK4.out _ _ (Nz4.out.rw _ (List.mem_cons_self ..)).1) ?_
          case hw99052 => kernel_rfl
          simp only [Act.put, List.setIfInBounds_toArray, List.set_cons_zero, List.set_cons_succ]
          refine @BigFrame.wpList_want _ _ _ _ _ _ _ ?hw99053 ?_
          case hw99053 => kernel_rfl
          intro K hK
          go_simp
          refine hK _ _ ?_
          clear hK K
          refine @wpList_load_known _ _ _ _ _ _ _ ?hw99054 22 (.tmp 62) rfl (mb) (160) rfl (.agg s5) (HK5.out _ _ (Nz4.out.rw _ (List.mem_cons_self ..)).1) ?_
          case hw99054 => kernel_rfl
          simp only [Act.put, List.setIfInBounds_toArray, List.set_cons_zero, List.set_cons_succ]
          refine @BigFrame.wpList_want _ _ _ _ _ _ _ ?hw99055 ?_
          case hw99055 => kernel_rfl
          intro K hK
          go_simp
          refine hK _ _ ?_
          clear hK K
          refine @wpList_load_known _ _ _ _ _ _ _ ?hw99056 22 (.tmp 64) rfl (mb) (192) rfl (.agg s6) (HK6.out _ _ (Nz4.out.rw _ (List.mem_cons_self ..)).1) ?_
          case hw99056 => kernel_rfl
          simp only [Act.put, List.setIfInBounds_toArray, List.set_cons_zero, List.set_cons_succ]
          refine @wpL_sliceN _ _ _ _ _ _ _ _ ?hw99048 47 4 _ rfl #[(0, .agg s3), (1, .agg s4), (2, .agg s5), (3, .agg s6)] (by simp only [List.map_toArray, List.map_cons, List.map_nil]; rfl) _ (HB4.out _) ?_
          case hw99048 => kernel_rfl
          simp only [Act.put, List.setIfInBounds_toArray, List.set_cons_zero, List.set_cons_succ]
          have kn : Kept z4.heap.size z4.heap.size z4 (z4.alloc (.cells al 22)) := (Kept.refl _ _ _).alloc (Nat.le_refl _) _
          have Rab := Lib.hid (heap_new z4 (.cells al 22))
          have N9 := Lib.hid (Nz4.out.kept kn)
          clear kn
          generalize z4.alloc (.cells al 22) = w9 at Rab N9   ⊢
          generalize z4.heap.size = ab at Rab ⊢
          have N10 := Lib.hid (N9.out.more (ab, al, 22) Rab.out Ky.calm_22)
          clear N9 Rab Nz4
          refine @BigFrame.wpList_want _ _ _ _ _ _ _ ?hw99057 ?_
          case hw99057 => kernel_rfl
          intro K hK
          go_simp
          refine hK _ _ ?_
          clear hK K
          as_aux_lemma =>
            go_wp2
            go_loopw [11, 13] (fun s11 s13 wr => ∃ i : Nat, ∃ v, s11 = v ∧ s13 = .int .i64 (i : Int) ∧ Hid (i ≤ 4) ∧ Hid (Kn w b2 bb 18 (Ky.mf [] j c 6) L0 [(ab, al, 22), (mb, fu, 29)] wr v (Ky.mf [] j c (i + 2)))) (fun _ s13 _ => 4 - (RowKit.intOf s13).toNat)
            case atStart => exact ⟨0, _, rfl, rfl, Lib.hid (Nat.zero_le _), N10⟩
            case round =>
              obtain ⟨i, v, rfl, rfl, hi, N⟩ := hrel
              obtain ⟨lad, lc, rfl⟩ := N.out.shape
              by_cases hlt : i < 4
              · have hlti : (i : Int) < 4 := by omega
                have hi0 : ¬ (i : Int) < 0 := by omega
                have HLT := Lib.hid hlt
                have HNI := Lib.hid (HNN.out i hlt)
                have HOA := Lib.hid (HLA.out i hlt)
                have HZO := Lib.hid (HZN.out i hlt)
                obtain ⟨oc, hoc⟩ : ∃ t, t = (bcells (Ky.key j c (i + 3))).toArray := ⟨_, rfl⟩
                rw [← hoc] at HNI HOA HZO
                obtain ⟨ln, hln⟩ : ∃ t, t = (Ky.mf [] j c (i + 2)).length := ⟨_, rfl⟩
                rw [← hln] at N ⊢
                clear hoc hlt hln
                have HSS := Lib.hid (fun (n : Nat) (gs : Facts) (x : World) (v : Value) (L : Facts) (h : Kn w b2 bb n gs L0 [(ab, al, 22), (mb, fu, 29)] x v L) => (show x.heap[ab]? = some (.cells al 22 (0, 0)) ∧ x.heap[mb]? = some (.cells fu 29 (0, 0)) from ⟨(h.rw _ (List.mem_cons_self ..)).1, (h.rw _ (List.mem_cons_of_mem _ (List.mem_cons_self ..))).1⟩))
                have kd : Kept wr.heap.size wr.heap.size wr wr.drew := (Kept.refl _ _ _).drew
                have M0 := Lib.hid (N.out.kept kd)
                clear kd N
                go_upto_region 13 with fail
                refine wp_region_noPanic ?_
                refine wp_region_held_drew (S := fun x => x.heap[ab]? = some (.cells al 22 (0, 0)) ∧ x.heap[mb]? = some (.cells fu 29 (0, 0))) (by kernel_rfl) (HSS.out _ _ _ _ _ M0.out) (fun hH => ?_)
                generalize wr.drew = wd at M0 hH ⊢
                refine wpAnyH_take_ex (i := 0) 72 rfl rfl (by kernel_rfl) (by kernel_rfl) (by kernel_rfl) (fun _ _ _ _ h => h) (by kernel_rfl) hH ?_
                apply Exists.intro
                apply And.intro
                · intro w9 _
                  go_simp
                  first | done | rfl
                simp only [List.setIfInBounds_toArray, List.set_cons_zero, List.set_cons_succ]
                refine wpAnyH_take_ex (i := 1) 73 rfl rfl (by kernel_rfl) (by kernel_rfl) (by kernel_rfl) (fun _ _ _ _ h => h) (by kernel_rfl) hH ?_
                apply Exists.intro
                apply And.intro
                · intro w9 _
                  go_simp
                  first | done | rfl
                simp only [List.setIfInBounds_toArray, List.set_cons_zero, List.set_cons_succ]
                refine wpAnyH_take_ex (i := 2) 74 rfl rfl (by kernel_rfl) (by kernel_rfl) (by kernel_rfl) (fun _ _ _ _ h => h) (by kernel_rfl) hH ?_
                apply Exists.intro
                apply And.intro
                · intro w9 _
                  go_simp
                  first | done | rfl
                simp only [List.setIfInBounds_toArray, List.set_cons_zero, List.set_cons_succ]
                refine wpAnyH_take_ex (i := 3) 75 rfl rfl (by kernel_rfl) (by kernel_rfl) (by kernel_rfl) (fun _ _ _ _ h => h) (by kernel_rfl) hH ?_
                apply Exists.intro
                apply And.intro
                · intro w9 _
                  go_simp
                  first | done | rfl
                simp only [List.setIfInBounds_toArray, List.set_cons_zero, List.set_cons_succ]
                refine wpAnyH_take_at (i := 4) 76 (.agg oc) rfl rfl (by kernel_rfl) (by kernel_rfl) (by kernel_rfl) (fun _ _ _ h => h) (yieldsIf_load_known (by kernel_rfl) 22 _ rfl (ab) (i * 32) rfl (.agg oc) (fun w9 h9 => HOA.out w9 ab h9.1)) hH ?_
                simp only [List.setIfInBounds_toArray, List.set_cons_zero, List.set_cons_succ]
                refine wpAnyH_take_ex (i := 6) 78 rfl rfl (by kernel_rfl) (by kernel_rfl) (by kernel_rfl) (fun _ _ _ _ h => h) (by kernel_rfl) hH ?_
                apply Exists.intro
                apply And.intro
                · intro w9 _
                  go_simp
                  first | done | rfl
                simp only [List.setIfInBounds_toArray, List.set_cons_zero, List.set_cons_succ]
                refine wpAnyH_take_at (i := 7) 79 (.agg s2) rfl rfl (by kernel_rfl) (by kernel_rfl) (by kernel_rfl) (fun _ _ _ h => h) (yieldsIf_load_known (by kernel_rfl) 22 _ rfl (mb) (64) rfl (.agg s2) (fun w9 h9 => HK2.out w9 mb h9.2)) hH ?_
                simp only [List.setIfInBounds_toArray, List.set_cons_zero, List.set_cons_succ]
                refine wpAnyH_ready (rs := [5, 8]) (by kernel_rfl) (by simp) ?_
                refine AllReadyH.cons rfl (fun K hK => ?_) ?_
                · rw [if_pos (by rfl)]
                  refine wp_build_one _ 47 22 rfl i0 z0 Tryd.underlying47 HI0.out HZ0.out oc rfl (by rw [HS0.out]; exact HZO.out) (by rw [HS0.out]; decide) (by rw [HS0.out]; decide) ?_
                  simp only [Act.put]
                  have kn : Kept wd.heap.size wd.heap.size wd (wd.alloc (.cells oc 22)) := (Kept.refl _ _ _).alloc (Nat.le_refl _) _
                  have Rgo := Lib.hid (heap_new wd (.cells oc 22))
                  have M1 := Lib.hid (M0.out.kept kn)
                  clear kn
                  generalize wd.alloc (.cells oc 22) = v1 at Rgo M1   ⊢
                  generalize wd.heap.size = go at Rgo ⊢
                  refine hK.out _ _ (HSS.out _ _ _ _ _ M1.out) (fun hH => ?_)
                  clear hK K
                  refine wpAnyH_ready (rs := [8]) (by kernel_rfl) (by simp) ?_
                  refine AllReadyH.cons rfl (fun K hK => ?_) AllReadyH.nil
                  rw [if_pos (by rfl)]
                  refine wp_build_one _ 47 22 rfl i0 z0 Tryd.underlying47 HI0.out HZ0.out s2 rfl (by rw [HS0.out]; exact HZ2.out) (by rw [HS0.out]; decide) (by rw [HS0.out]; decide) ?_
                  simp only [Act.put]
                  have kn : Kept v1.heap.size v1.heap.size v1 (v1.alloc (.cells s2 22)) := (Kept.refl _ _ _).alloc (Nat.le_refl _) _
                  have Rgi := Lib.hid (heap_new v1 (.cells s2 22))
                  have M2 := Lib.hid (M1.out.kept kn)
                  replace Rgo := Lib.hid (row_kept Rgo.out kn)
                  clear kn
                  generalize v1.alloc (.cells s2 22) = v2 at Rgi M2 Rgo  ⊢
                  generalize v1.heap.size = gi at Rgi ⊢
                  refine hK.out _ _ (HSS.out _ _ _ _ _ M2.out) (fun hH => ?_)
                  clear hK K
                  refine wpAnyH_ready (rs := [9]) (by kernel_rfl) (by simp) ?_
                  refine AllReadyH.cons rfl (fun K hK => ?_) AllReadyH.nil
                  rw [if_pos (by rfl)]
                  go_simp
                  go_wp2_with (go_at_call 24; refine (made_calls go gi _).mono ?_; rintro e v3 ⟨rfl, k3⟩)
                  have M3 := Lib.hid (M2.out.kept k3)
                  replace Rgo := Lib.hid (row_kept Rgo.out k3)
                  replace Rgi := Lib.hid (row_kept Rgi.out k3)
                  clear k3
                  refine hK.out _ _ (HSS.out _ _ _ _ _ M3.out) (fun hH => ?_)
                  clear hK K
                  refine wpAnyH_ready (rs := [10]) (by kernel_rfl) (by simp) ?_
                  refine AllReadyH.cons rfl (fun K hK => ?_) AllReadyH.nil
                  rw [if_pos (by rfl)]
                  go_simp
                  go_wp2_with (go_at_call 23; refine (HNI.out _ _ _ _ _ _ _ _ M3.out gi go Rgi.out Rgo.out).mono ?_; rintro e v4 ⟨u, rfl, n9⟩)
                  have M4 := Lib.hid n9
                  obtain ⟨uad, uc, rfl⟩ := n9.shape
                  clear n9 Rgo Rgi
                  refine hK.out _ _ (HSS.out _ _ _ _ _ M4.out) (fun hH => ?_)
                  clear hK K
                  refine wpAnyH_take_ex (i := 11) 71 rfl rfl (by kernel_rfl) (by kernel_rfl) (by kernel_rfl) (fun _ _ _ _ h => h) (by kernel_rfl) hH ?_
                  apply Exists.intro
                  apply And.intro
                  · intro w9 _
                    go_simp
                    first | done | rfl
                  simp only [List.setIfInBounds_toArray, List.set_cons_zero, List.set_cons_succ]
                  refine wpAnyH_take_ex (i := 12) 83 rfl rfl (by kernel_rfl) (by kernel_rfl) (by kernel_rfl) (fun _ _ _ _ h => h) (by kernel_rfl) hH ?_
                  apply Exists.intro
                  apply And.intro
                  · intro w9 _
                    go_simp
                    first | done | rfl
                  simp only [List.setIfInBounds_toArray, List.set_cons_zero, List.set_cons_succ]
                  refine wpAnyH_take_ex (i := 13) 84 rfl rfl (by kernel_rfl) (by kernel_rfl) (by kernel_rfl) (fun _ _ _ _ h => h) (by kernel_rfl) hH ?_
                  apply Exists.intro
                  apply And.intro
                  · intro w9 _
                    go_simp
                    first | done | rfl
                  simp only [List.setIfInBounds_toArray, List.set_cons_zero, List.set_cons_succ]
                  refine wpAnyH_take_ex (i := 14) 11 rfl rfl (by kernel_rfl) (by kernel_rfl) (by kernel_rfl) (fun _ _ _ _ h => h) (by kernel_rfl) hH ?_
                  apply Exists.intro
                  apply And.intro
                  · intro w9 _
                    go_simp
                    first | done | rfl
                  simp only [List.setIfInBounds_toArray, List.set_cons_zero, List.set_cons_succ]
                  refine wpAnyH_done (by kernel_rfl) ?_ _
                  refine NoPanic.normal ?_
                  clear hH
                  obtain ⟨ln2, hln2⟩ : ∃ t, t = (Ky.mf [] j c (i + 2 + 1)).length := ⟨_, rfl⟩
                  rw [← hln2] at M4 ⊢
                  clear hln2
                  go_wp2
                  go_roundw
                  case rel => exact ⟨i + 1, _, rfl, by go_num, Lib.hid HLT.out, M4⟩
                  case measure => have := HLT.out; simp [RowKit.intOf]; omega
                refine AllReadyH.cons rfl (fun K hK => ?_) AllReadyH.nil
                · rw [if_pos (by rfl)]
                  refine wp_build_one _ 47 22 rfl i0 z0 Tryd.underlying47 HI0.out HZ0.out s2 rfl (by rw [HS0.out]; exact HZ2.out) (by rw [HS0.out]; decide) (by rw [HS0.out]; decide) ?_
                  simp only [Act.put]
                  have kn : Kept wd.heap.size wd.heap.size wd (wd.alloc (.cells s2 22)) := (Kept.refl _ _ _).alloc (Nat.le_refl _) _
                  have Rgi := Lib.hid (heap_new wd (.cells s2 22))
                  have M1 := Lib.hid (M0.out.kept kn)
                  clear kn
                  generalize wd.alloc (.cells s2 22) = v1 at Rgi M1   ⊢
                  generalize wd.heap.size = gi at Rgi ⊢
                  refine hK.out _ _ (HSS.out _ _ _ _ _ M1.out) (fun hH => ?_)
                  clear hK K
                  refine wpAnyH_ready (rs := [5]) (by kernel_rfl) (by simp) ?_
                  refine AllReadyH.cons rfl (fun K hK => ?_) AllReadyH.nil
                  rw [if_pos (by rfl)]
                  refine wp_build_one _ 47 22 rfl i0 z0 Tryd.underlying47 HI0.out HZ0.out oc rfl (by rw [HS0.out]; exact HZO.out) (by rw [HS0.out]; decide) (by rw [HS0.out]; decide) ?_
                  simp only [Act.put]
                  have kn : Kept v1.heap.size v1.heap.size v1 (v1.alloc (.cells oc 22)) := (Kept.refl _ _ _).alloc (Nat.le_refl _) _
                  have Rgo := Lib.hid (heap_new v1 (.cells oc 22))
                  have M2 := Lib.hid (M1.out.kept kn)
                  replace Rgi := Lib.hid (row_kept Rgi.out kn)
                  clear kn
                  generalize v1.alloc (.cells oc 22) = v2 at Rgo M2 Rgi  ⊢
                  generalize v1.heap.size = go at Rgo ⊢
                  refine hK.out _ _ (HSS.out _ _ _ _ _ M2.out) (fun hH => ?_)
                  clear hK K
                  refine wpAnyH_ready (rs := [9]) (by kernel_rfl) (by simp) ?_
                  refine AllReadyH.cons rfl (fun K hK => ?_) AllReadyH.nil
                  rw [if_pos (by rfl)]
                  go_simp
                  go_wp2_with (go_at_call 24; refine (made_calls go gi _).mono ?_; rintro e v3 ⟨rfl, k3⟩)
                  have M3 := Lib.hid (M2.out.kept k3)
                  replace Rgi := Lib.hid (row_kept Rgi.out k3)
                  replace Rgo := Lib.hid (row_kept Rgo.out k3)
                  clear k3
                  refine hK.out _ _ (HSS.out _ _ _ _ _ M3.out) (fun hH => ?_)
                  clear hK K
                  refine wpAnyH_ready (rs := [10]) (by kernel_rfl) (by simp) ?_
                  refine AllReadyH.cons rfl (fun K hK => ?_) AllReadyH.nil
                  rw [if_pos (by rfl)]
                  go_simp
                  go_wp2_with (go_at_call 23; refine (HNI.out _ _ _ _ _ _ _ _ M3.out gi go Rgi.out Rgo.out).mono ?_; rintro e v4 ⟨u, rfl, n9⟩)
                  have M4 := Lib.hid n9
                  obtain ⟨uad, uc, rfl⟩ := n9.shape
                  clear n9 Rgi Rgo
                  refine hK.out _ _ (HSS.out _ _ _ _ _ M4.out) (fun hH => ?_)
                  clear hK K
                  refine wpAnyH_take_ex (i := 11) 71 rfl rfl (by kernel_rfl) (by kernel_rfl) (by kernel_rfl) (fun _ _ _ _ h => h) (by kernel_rfl) hH ?_
                  apply Exists.intro
                  apply And.intro
                  · intro w9 _
                    go_simp
                    first | done | rfl
                  simp only [List.setIfInBounds_toArray, List.set_cons_zero, List.set_cons_succ]
                  refine wpAnyH_take_ex (i := 12) 83 rfl rfl (by kernel_rfl) (by kernel_rfl) (by kernel_rfl) (fun _ _ _ _ h => h) (by kernel_rfl) hH ?_
                  apply Exists.intro
                  apply And.intro
                  · intro w9 _
                    go_simp
                    first | done | rfl
                  simp only [List.setIfInBounds_toArray, List.set_cons_zero, List.set_cons_succ]
                  refine wpAnyH_take_ex (i := 13) 84 rfl rfl (by kernel_rfl) (by kernel_rfl) (by kernel_rfl) (fun _ _ _ _ h => h) (by kernel_rfl) hH ?_
                  apply Exists.intro
                  apply And.intro
                  · intro w9 _
                    go_simp
                    first | done | rfl
                  simp only [List.setIfInBounds_toArray, List.set_cons_zero, List.set_cons_succ]
                  refine wpAnyH_take_ex (i := 14) 11 rfl rfl (by kernel_rfl) (by kernel_rfl) (by kernel_rfl) (fun _ _ _ _ h => h) (by kernel_rfl) hH ?_
                  apply Exists.intro
                  apply And.intro
                  · intro w9 _
                    go_simp
                    first | done | rfl
                  simp only [List.setIfInBounds_toArray, List.set_cons_zero, List.set_cons_succ]
                  refine wpAnyH_done (by kernel_rfl) ?_ _
                  refine NoPanic.normal ?_
                  clear hH
                  obtain ⟨ln2, hln2⟩ : ∃ t, t = (Ky.mf [] j c (i + 2 + 1)).length := ⟨_, rfl⟩
                  rw [← hln2] at M4 ⊢
                  clear hln2
                  go_wp2
                  go_roundw
                  case rel => exact ⟨i + 1, _, rfl, by go_num, Lib.hid HLT.out, M4⟩
                  case measure => have := HLT.out; simp [RowKit.intOf]; omega
              · have hnl : ¬ (i : Int) < 4 := by omega
                obtain rfl : i = 4 := by have := hi.out; omega
                clear hlt hi
                rw [show Ky.mf [] j c (4 + 2) = Ky.mf [] j c 6 from rfl] at N
                go_upto_region 14 with fail
                refine wp_region_lit ?_
                refine @BigFrame.wpList_want _ _ _ _ _ _ _ ?hw99059 ?_
                case hw99059 => kernel_rfl
                intro K hK
                go_simp
                refine hK _ _ ?_
                clear hK K
                refine @BigFrame.wpList_want _ _ _ _ _ _ _ ?hw99060 ?_
                case hw99060 => kernel_rfl
                intro K hK
                go_simp
                refine hK _ _ ?_
                clear hK K
                refine @wpList_load_known _ _ _ _ _ _ _ ?hw99061 22 (.tmp 86) rfl (mb) (160) rfl (.agg s5) (HK5.out _ _ (N.out.rw _ (List.mem_cons_of_mem _ (List.mem_cons_self ..))).1) ?_
                case hw99061 => kernel_rfl
                simp only [Act.put, List.setIfInBounds_toArray, List.set_cons_zero, List.set_cons_succ]
                refine @BigFrame.wpList_want _ _ _ _ _ _ _ ?hw99062 ?_
                case hw99062 => kernel_rfl
                intro K hK
                go_simp
                refine hK _ _ ?_
                clear hK K
                refine @BigFrame.wpList_want _ _ _ _ _ _ _ ?hw99058 ?_
                case hw99058 => kernel_rfl
                intro K hK
                go_simp
                go_at_call 12
                refine (HAP5.out _ b2 bb N.out.bk N.out.hb2 N.out.kp).mono ?_
                rintro e w14 ⟨D, rfl, q14, f14⟩
                have N14 := Lib.hid (N.out.book q14 f14)
                clear q14 f14 N
                refine hK _ _ ?_
                clear hK K
                by_cases hn : 0 ≤ n ∧ n < 64
                · have hd1 : decide (n ≥ 0) = true := decide_eq_true hn.1
                  have hd2 : decide (n < 64) = true := decide_eq_true hn.2
                  obtain ⟨q, rfl⟩ : ∃ q : Nat, n = (q : Int) := ⟨n.toNat, by omega⟩
                  have hq : q < 64 := by omega
                  have HRA := Lib.hid (HRAP.out q hq)
                  have HNA := Lib.hid (HNAP.out q hq)
                  have HGQ := Lib.hid (HGIN.out q hq rfl)
                  have HZP := Lib.hid (show (bcells (Ky.app (Ky.key j c 5) q)).toArray.size = 32 by rw [List.size_toArray, bcells_length, Ky.app_length])
                  obtain ⟨pc, hpc⟩ : ∃ t, t = (bcells (Ky.app (Ky.key j c 5) q)).toArray := ⟨_, rfl⟩
                  rw [← hpc] at HRA HNA HZP
                  obtain ⟨l6, hl6⟩ : ∃ t, t = (Ky.mf [] j c 6).length := ⟨_, rfl⟩
                  rw [← hl6] at N14 ⊢
                  clear hpc hq hn hl6
                  go_upto_if 95 with fail
                  go_cut [11] (fun s11 wx => ∃ v : Value, s11 = v ∧ Hid (Kn w b2 bb 21 G L0 [(ab, al, 22), (mb, fu, 29)] wx v G))
                  case first =>
                    have HSS := Lib.hid (fun (n : Nat) (gs : Facts) (x : World) (v : Value) (L : Facts) (h : Kn w b2 bb n gs L0 [(ab, al, 22), (mb, fu, 29)] x v L) => (show x.heap[ab]? = some (.cells al 22 (0, 0)) ∧ x.heap[mb]? = some (.cells fu 29 (0, 0)) from ⟨(h.rw _ (List.mem_cons_self ..)).1, (h.rw _ (List.mem_cons_of_mem _ (List.mem_cons_self ..))).1⟩))
                    have kd : Kept w14.heap.size w14.heap.size w14 w14.drew := (Kept.refl _ _ _).drew
                    have M0 := Lib.hid (N14.out.kept kd)
                    clear kd N14
                    go_upto_region 16 with fail
                    refine wp_region_noPanic ?_
                    refine wp_region_held_drew (S := fun x => x.heap[ab]? = some (.cells al 22 (0, 0)) ∧ x.heap[mb]? = some (.cells fu 29 (0, 0))) (by kernel_rfl) (HSS.out _ _ _ _ _ M0.out) (fun hH => ?_)
                    generalize w14.drew = wd at M0 hH ⊢
                    refine wpAnyH_take_ex (i := 0) 97 rfl rfl (by kernel_rfl) (by kernel_rfl) (by kernel_rfl) (fun _ _ _ _ h => h) (by kernel_rfl) hH ?_
                    apply Exists.intro
                    apply And.intro
                    · intro w9 _
                      go_simp
                      first | done | rfl
                    simp only [List.setIfInBounds_toArray, List.set_cons_zero, List.set_cons_succ]
                    refine wpAnyH_take_ex (i := 1) 98 rfl rfl (by kernel_rfl) (by kernel_rfl) (by kernel_rfl) (fun _ _ _ _ h => h) (by kernel_rfl) hH ?_
                    apply Exists.intro
                    apply And.intro
                    · intro w9 _
                      go_simp
                      first | done | rfl
                    simp only [List.setIfInBounds_toArray, List.set_cons_zero, List.set_cons_succ]
                    refine wpAnyH_take_at (i := 2) 99 (.agg s5) rfl rfl (by kernel_rfl) (by kernel_rfl) (by kernel_rfl) (fun _ _ _ h => h) (yieldsIf_load_known (by kernel_rfl) 22 _ rfl (mb) (160) rfl (.agg s5) (fun w9 h9 => HK5.out w9 mb h9.2)) hH ?_
                    simp only [List.setIfInBounds_toArray, List.set_cons_zero, List.set_cons_succ]
                    refine wpAnyH_take_ex (i := 3) 100 rfl rfl (by kernel_rfl) (by kernel_rfl) (by kernel_rfl) (fun _ _ _ _ h => h) (by kernel_rfl) hH ?_
                    apply Exists.intro
                    apply And.intro
                    · intro w9 _
                      go_simp
                      first | done | rfl
                    simp only [List.setIfInBounds_toArray, List.set_cons_zero, List.set_cons_succ]
                    refine wpAnyH_take_ex (i := 6) 103 rfl rfl (by kernel_rfl) (by kernel_rfl) (by kernel_rfl) (fun _ _ _ _ h => h) (by kernel_rfl) hH ?_
                    apply Exists.intro
                    apply And.intro
                    · intro w9 _
                      go_simp
                      first | done | rfl
                    simp only [List.setIfInBounds_toArray, List.set_cons_zero, List.set_cons_succ]
                    refine wpAnyH_take_at (i := 7) 104 (.agg s5) rfl rfl (by kernel_rfl) (by kernel_rfl) (by kernel_rfl) (fun _ _ _ h => h) (yieldsIf_load_known (by kernel_rfl) 22 _ rfl (mb) (160) rfl (.agg s5) (fun w9 h9 => HK5.out w9 mb h9.2)) hH ?_
                    simp only [List.setIfInBounds_toArray, List.set_cons_zero, List.set_cons_succ]
                    refine wpAnyH_ready (rs := [4, 8]) (by kernel_rfl) (by simp) ?_
                    refine AllReadyH.cons rfl (fun K hK => ?_) ?_
                    · rw [if_pos (by rfl)]
                      go_simp
                      go_wp2_with (go_at_call 13; refine (HRA.out _).mono ?_; rintro e v1 ⟨rfl, k1⟩)
                      have M1 := Lib.hid (M0.out.kept k1)
                      clear k1
                      refine hK.out _ _ (HSS.out _ _ _ _ _ M1.out) (fun hH => ?_)
                      clear hK K
                      refine wpAnyH_ready (rs := [5, 8]) (by kernel_rfl) (by simp) ?_
                      refine AllReadyH.cons rfl (fun K hK => ?_) ?_
                      · rw [if_pos (by rfl)]
                        refine wp_build_one _ 47 22 rfl i0 z0 Tryd.underlying47 HI0.out HZ0.out pc rfl (by rw [HS0.out]; exact HZP.out) (by rw [HS0.out]; decide) (by rw [HS0.out]; decide) ?_
                        simp only [Act.put]
                        have kn : Kept v1.heap.size v1.heap.size v1 (v1.alloc (.cells pc 22)) := (Kept.refl _ _ _).alloc (Nat.le_refl _) _
                        have Rgo := Lib.hid (heap_new v1 (.cells pc 22))
                        have M2 := Lib.hid (M1.out.kept kn)
                        clear kn
                        generalize v1.alloc (.cells pc 22) = v2 at Rgo M2   ⊢
                        generalize v1.heap.size = go at Rgo ⊢
                        refine hK.out _ _ (HSS.out _ _ _ _ _ M2.out) (fun hH => ?_)
                        clear hK K
                        refine wpAnyH_ready (rs := [8]) (by kernel_rfl) (by simp) ?_
                        refine AllReadyH.cons rfl (fun K hK => ?_) AllReadyH.nil
                        rw [if_pos (by rfl)]
                        refine wp_build_one _ 47 22 rfl i0 z0 Tryd.underlying47 HI0.out HZ0.out s5 rfl (by rw [HS0.out]; exact HZ5.out) (by rw [HS0.out]; decide) (by rw [HS0.out]; decide) ?_
                        simp only [Act.put]
                        have kn : Kept v2.heap.size v2.heap.size v2 (v2.alloc (.cells s5 22)) := (Kept.refl _ _ _).alloc (Nat.le_refl _) _
                        have Rgi := Lib.hid (heap_new v2 (.cells s5 22))
                        have M3 := Lib.hid (M2.out.kept kn)
                        replace Rgo := Lib.hid (row_kept Rgo.out kn)
                        clear kn
                        generalize v2.alloc (.cells s5 22) = v3 at Rgi M3 Rgo  ⊢
                        generalize v2.heap.size = gi at Rgi ⊢
                        refine hK.out _ _ (HSS.out _ _ _ _ _ M3.out) (fun hH => ?_)
                        clear hK K
                        refine wpAnyH_ready (rs := [9]) (by kernel_rfl) (by simp) ?_
                        refine AllReadyH.cons rfl (fun K hK => ?_) AllReadyH.nil
                        rw [if_pos (by rfl)]
                        go_simp
                        go_wp2_with (go_at_call 24; refine (made_calls go gi _).mono ?_; rintro e v4 ⟨rfl, k4⟩)
                        have M4 := Lib.hid (M3.out.kept k4)
                        replace Rgo := Lib.hid (row_kept Rgo.out k4)
                        replace Rgi := Lib.hid (row_kept Rgi.out k4)
                        clear k4
                        refine hK.out _ _ (HSS.out _ _ _ _ _ M4.out) (fun hH => ?_)
                        clear hK K
                        refine wpAnyH_ready (rs := [10]) (by kernel_rfl) (by simp) ?_
                        refine AllReadyH.cons rfl (fun K hK => ?_) AllReadyH.nil
                        rw [if_pos (by rfl)]
                        go_simp
                        go_wp2_with (go_at_call 23; refine (HNA.out _ _ _ _ _ _ _ _ M4.out gi go Rgi.out Rgo.out).mono ?_; rintro e v5 ⟨u, rfl, n9⟩)
                        have M5 := Lib.hid n9
                        obtain ⟨uad, uc, rfl⟩ := n9.shape
                        clear n9 Rgo Rgi
                        refine hK.out _ _ (HSS.out _ _ _ _ _ M5.out) (fun hH => ?_)
                        clear hK K
                        refine wpAnyH_take_ex (i := 11) 96 rfl rfl (by kernel_rfl) (by kernel_rfl) (by kernel_rfl) (fun _ _ _ _ h => h) (by kernel_rfl) hH ?_
                        apply Exists.intro
                        apply And.intro
                        · intro w9 _
                          go_simp
                          first | done | rfl
                        simp only [List.setIfInBounds_toArray, List.set_cons_zero, List.set_cons_succ]
                        refine wpAnyH_take_ex (i := 12) 108 rfl rfl (by kernel_rfl) (by kernel_rfl) (by kernel_rfl) (fun _ _ _ _ h => h) (by kernel_rfl) hH ?_
                        apply Exists.intro
                        apply And.intro
                        · intro w9 _
                          go_simp
                          first | done | rfl
                        simp only [List.setIfInBounds_toArray, List.set_cons_zero, List.set_cons_succ]
                        refine wpAnyH_take_ex (i := 13) 109 rfl rfl (by kernel_rfl) (by kernel_rfl) (by kernel_rfl) (fun _ _ _ _ h => h) (by kernel_rfl) hH ?_
                        apply Exists.intro
                        apply And.intro
                        · intro w9 _
                          go_simp
                          first | done | rfl
                        simp only [List.setIfInBounds_toArray, List.set_cons_zero, List.set_cons_succ]
                        refine wpAnyH_take_ex (i := 14) 11 rfl rfl (by kernel_rfl) (by kernel_rfl) (by kernel_rfl) (fun _ _ _ _ h => h) (by kernel_rfl) hH ?_
                        apply Exists.intro
                        apply And.intro
                        · intro w9 _
                          go_simp
                          first | done | rfl
                        simp only [List.setIfInBounds_toArray, List.set_cons_zero, List.set_cons_succ]
                        refine wpAnyH_done (by kernel_rfl) ?_ _
                        refine NoPanic.normal ?_
                        clear hH
                        go_wp2
                        go_meet
                        exact ⟨_, rfl, Lib.hid (by have := M5.out; rw [HGQ.out]; rw [HGQ.out] at this; exact this)⟩
                      refine AllReadyH.cons rfl (fun K hK => ?_) AllReadyH.nil
                      · rw [if_pos (by rfl)]
                        refine wp_build_one _ 47 22 rfl i0 z0 Tryd.underlying47 HI0.out HZ0.out s5 rfl (by rw [HS0.out]; exact HZ5.out) (by rw [HS0.out]; decide) (by rw [HS0.out]; decide) ?_
                        simp only [Act.put]
                        have kn : Kept v1.heap.size v1.heap.size v1 (v1.alloc (.cells s5 22)) := (Kept.refl _ _ _).alloc (Nat.le_refl _) _
                        have Rgi := Lib.hid (heap_new v1 (.cells s5 22))
                        have M2 := Lib.hid (M1.out.kept kn)
                        clear kn
                        generalize v1.alloc (.cells s5 22) = v2 at Rgi M2   ⊢
                        generalize v1.heap.size = gi at Rgi ⊢
                        refine hK.out _ _ (HSS.out _ _ _ _ _ M2.out) (fun hH => ?_)
                        clear hK K
                        refine wpAnyH_ready (rs := [5]) (by kernel_rfl) (by simp) ?_
                        refine AllReadyH.cons rfl (fun K hK => ?_) AllReadyH.nil
                        rw [if_pos (by rfl)]
                        refine wp_build_one _ 47 22 rfl i0 z0 Tryd.underlying47 HI0.out HZ0.out pc rfl (by rw [HS0.out]; exact HZP.out) (by rw [HS0.out]; decide) (by rw [HS0.out]; decide) ?_
                        simp only [Act.put]
                        have kn : Kept v2.heap.size v2.heap.size v2 (v2.alloc (.cells pc 22)) := (Kept.refl _ _ _).alloc (Nat.le_refl _) _
                        have Rgo := Lib.hid (heap_new v2 (.cells pc 22))
                        have M3 := Lib.hid (M2.out.kept kn)
                        replace Rgi := Lib.hid (row_kept Rgi.out kn)
                        clear kn
                        generalize v2.alloc (.cells pc 22) = v3 at Rgo M3 Rgi  ⊢
                        generalize v2.heap.size = go at Rgo ⊢
                        refine hK.out _ _ (HSS.out _ _ _ _ _ M3.out) (fun hH => ?_)
                        clear hK K
                        refine wpAnyH_ready (rs := [9]) (by kernel_rfl) (by simp) ?_
                        refine AllReadyH.cons rfl (fun K hK => ?_) AllReadyH.nil
                        rw [if_pos (by rfl)]
                        go_simp
                        go_wp2_with (go_at_call 24; refine (made_calls go gi _).mono ?_; rintro e v4 ⟨rfl, k4⟩)
                        have M4 := Lib.hid (M3.out.kept k4)
                        replace Rgi := Lib.hid (row_kept Rgi.out k4)
                        replace Rgo := Lib.hid (row_kept Rgo.out k4)
                        clear k4
                        refine hK.out _ _ (HSS.out _ _ _ _ _ M4.out) (fun hH => ?_)
                        clear hK K
                        refine wpAnyH_ready (rs := [10]) (by kernel_rfl) (by simp) ?_
                        refine AllReadyH.cons rfl (fun K hK => ?_) AllReadyH.nil
                        rw [if_pos (by rfl)]
                        go_simp
                        go_wp2_with (go_at_call 23; refine (HNA.out _ _ _ _ _ _ _ _ M4.out gi go Rgi.out Rgo.out).mono ?_; rintro e v5 ⟨u, rfl, n9⟩)
                        have M5 := Lib.hid n9
                        obtain ⟨uad, uc, rfl⟩ := n9.shape
                        clear n9 Rgi Rgo
                        refine hK.out _ _ (HSS.out _ _ _ _ _ M5.out) (fun hH => ?_)
                        clear hK K
                        refine wpAnyH_take_ex (i := 11) 96 rfl rfl (by kernel_rfl) (by kernel_rfl) (by kernel_rfl) (fun _ _ _ _ h => h) (by kernel_rfl) hH ?_
                        apply Exists.intro
                        apply And.intro
                        · intro w9 _
                          go_simp
                          first | done | rfl
                        simp only [List.setIfInBounds_toArray, List.set_cons_zero, List.set_cons_succ]
                        refine wpAnyH_take_ex (i := 12) 108 rfl rfl (by kernel_rfl) (by kernel_rfl) (by kernel_rfl) (fun _ _ _ _ h => h) (by kernel_rfl) hH ?_
                        apply Exists.intro
                        apply And.intro
                        · intro w9 _
                          go_simp
                          first | done | rfl
                        simp only [List.setIfInBounds_toArray, List.set_cons_zero, List.set_cons_succ]
                        refine wpAnyH_take_ex (i := 13) 109 rfl rfl (by kernel_rfl) (by kernel_rfl) (by kernel_rfl) (fun _ _ _ _ h => h) (by kernel_rfl) hH ?_
                        apply Exists.intro
                        apply And.intro
                        · intro w9 _
                          go_simp
                          first | done | rfl
                        simp only [List.setIfInBounds_toArray, List.set_cons_zero, List.set_cons_succ]
                        refine wpAnyH_take_ex (i := 14) 11 rfl rfl (by kernel_rfl) (by kernel_rfl) (by kernel_rfl) (fun _ _ _ _ h => h) (by kernel_rfl) hH ?_
                        apply Exists.intro
                        apply And.intro
                        · intro w9 _
                          go_simp
                          first | done | rfl
                        simp only [List.setIfInBounds_toArray, List.set_cons_zero, List.set_cons_succ]
                        refine wpAnyH_done (by kernel_rfl) ?_ _
                        refine NoPanic.normal ?_
                        clear hH
                        go_wp2
                        go_meet
                        exact ⟨_, rfl, Lib.hid (by have := M5.out; rw [HGQ.out]; rw [HGQ.out] at this; exact this)⟩
                    refine AllReadyH.cons rfl (fun K hK => ?_) AllReadyH.nil
                    · rw [if_pos (by rfl)]
                      refine wp_build_one _ 47 22 rfl i0 z0 Tryd.underlying47 HI0.out HZ0.out s5 rfl (by rw [HS0.out]; exact HZ5.out) (by rw [HS0.out]; decide) (by rw [HS0.out]; decide) ?_
                      simp only [Act.put]
                      have kn : Kept wd.heap.size wd.heap.size wd (wd.alloc (.cells s5 22)) := (Kept.refl _ _ _).alloc (Nat.le_refl _) _
                      have Rgi := Lib.hid (heap_new wd (.cells s5 22))
                      have M1 := Lib.hid (M0.out.kept kn)
                      clear kn
                      generalize wd.alloc (.cells s5 22) = v1 at Rgi M1   ⊢
                      generalize wd.heap.size = gi at Rgi ⊢
                      refine hK.out _ _ (HSS.out _ _ _ _ _ M1.out) (fun hH => ?_)
                      clear hK K
                      refine wpAnyH_ready (rs := [4]) (by kernel_rfl) (by simp) ?_
                      refine AllReadyH.cons rfl (fun K hK => ?_) AllReadyH.nil
                      rw [if_pos (by rfl)]
                      go_simp
                      go_wp2_with (go_at_call 13; refine (HRA.out _).mono ?_; rintro e v2 ⟨rfl, k2⟩)
                      have M2 := Lib.hid (M1.out.kept k2)
                      replace Rgi := Lib.hid (row_kept Rgi.out k2)
                      clear k2
                      refine hK.out _ _ (HSS.out _ _ _ _ _ M2.out) (fun hH => ?_)
                      clear hK K
                      refine wpAnyH_ready (rs := [5]) (by kernel_rfl) (by simp) ?_
                      refine AllReadyH.cons rfl (fun K hK => ?_) AllReadyH.nil
                      rw [if_pos (by rfl)]
                      refine wp_build_one _ 47 22 rfl i0 z0 Tryd.underlying47 HI0.out HZ0.out pc rfl (by rw [HS0.out]; exact HZP.out) (by rw [HS0.out]; decide) (by rw [HS0.out]; decide) ?_
                      simp only [Act.put]
                      have kn : Kept v2.heap.size v2.heap.size v2 (v2.alloc (.cells pc 22)) := (Kept.refl _ _ _).alloc (Nat.le_refl _) _
                      have Rgo := Lib.hid (heap_new v2 (.cells pc 22))
                      have M3 := Lib.hid (M2.out.kept kn)
                      replace Rgi := Lib.hid (row_kept Rgi.out kn)
                      clear kn
                      generalize v2.alloc (.cells pc 22) = v3 at Rgo M3 Rgi  ⊢
                      generalize v2.heap.size = go at Rgo ⊢
                      refine hK.out _ _ (HSS.out _ _ _ _ _ M3.out) (fun hH => ?_)
                      clear hK K
                      refine wpAnyH_ready (rs := [9]) (by kernel_rfl) (by simp) ?_
                      refine AllReadyH.cons rfl (fun K hK => ?_) AllReadyH.nil
                      rw [if_pos (by rfl)]
                      go_simp
                      go_wp2_with (go_at_call 24; refine (made_calls go gi _).mono ?_; rintro e v4 ⟨rfl, k4⟩)
                      have M4 := Lib.hid (M3.out.kept k4)
                      replace Rgi := Lib.hid (row_kept Rgi.out k4)
                      replace Rgo := Lib.hid (row_kept Rgo.out k4)
                      clear k4
                      refine hK.out _ _ (HSS.out _ _ _ _ _ M4.out) (fun hH => ?_)
                      clear hK K
                      refine wpAnyH_ready (rs := [10]) (by kernel_rfl) (by simp) ?_
                      refine AllReadyH.cons rfl (fun K hK => ?_) AllReadyH.nil
                      rw [if_pos (by rfl)]
                      go_simp
                      go_wp2_with (go_at_call 23; refine (HNA.out _ _ _ _ _ _ _ _ M4.out gi go Rgi.out Rgo.out).mono ?_; rintro e v5 ⟨u, rfl, n9⟩)
                      have M5 := Lib.hid n9
                      obtain ⟨uad, uc, rfl⟩ := n9.shape
                      clear n9 Rgi Rgo
                      refine hK.out _ _ (HSS.out _ _ _ _ _ M5.out) (fun hH => ?_)
                      clear hK K
                      refine wpAnyH_take_ex (i := 11) 96 rfl rfl (by kernel_rfl) (by kernel_rfl) (by kernel_rfl) (fun _ _ _ _ h => h) (by kernel_rfl) hH ?_
                      apply Exists.intro
                      apply And.intro
                      · intro w9 _
                        go_simp
                        first | done | rfl
                      simp only [List.setIfInBounds_toArray, List.set_cons_zero, List.set_cons_succ]
                      refine wpAnyH_take_ex (i := 12) 108 rfl rfl (by kernel_rfl) (by kernel_rfl) (by kernel_rfl) (fun _ _ _ _ h => h) (by kernel_rfl) hH ?_
                      apply Exists.intro
                      apply And.intro
                      · intro w9 _
                        go_simp
                        first | done | rfl
                      simp only [List.setIfInBounds_toArray, List.set_cons_zero, List.set_cons_succ]
                      refine wpAnyH_take_ex (i := 13) 109 rfl rfl (by kernel_rfl) (by kernel_rfl) (by kernel_rfl) (fun _ _ _ _ h => h) (by kernel_rfl) hH ?_
                      apply Exists.intro
                      apply And.intro
                      · intro w9 _
                        go_simp
                        first | done | rfl
                      simp only [List.setIfInBounds_toArray, List.set_cons_zero, List.set_cons_succ]
                      refine wpAnyH_take_ex (i := 14) 11 rfl rfl (by kernel_rfl) (by kernel_rfl) (by kernel_rfl) (fun _ _ _ _ h => h) (by kernel_rfl) hH ?_
                      apply Exists.intro
                      apply And.intro
                      · intro w9 _
                        go_simp
                        first | done | rfl
                      simp only [List.setIfInBounds_toArray, List.set_cons_zero, List.set_cons_succ]
                      refine wpAnyH_done (by kernel_rfl) ?_ _
                      refine NoPanic.normal ?_
                      clear hH
                      go_wp2
                      go_meet
                      exact ⟨_, rfl, Lib.hid (by have := M5.out; rw [HGQ.out]; rw [HGQ.out] at this; exact this)⟩
                  case rest =>
                    obtain ⟨v, rfl, N⟩ := hcut
                    clear HRA HNA HZP HGQ
                    obtain ⟨lad, lc, rfl⟩ := N.out.shape
                    obtain ⟨ln, hln⟩ : ∃ t, t = G.length := ⟨_, rfl⟩
                    rw [← hln] at N HLN ⊢
                    clear hln
                    go_upto_region 17 with fail
                    refine wp_region_lit ?_
                    refine @BigFrame.wpList_want _ _ _ _ _ _ _ ?hw99065 ?_
                    case hw99065 => kernel_rfl
                    intro K hK
                    go_simp
                    refine hK _ _ ?_
                    clear hK K
                    refine @BigFrame.wpList_want _ _ _ _ _ _ _ ?hw99066 ?_
                    case hw99066 => kernel_rfl
                    intro K hK
                    go_simp
                    refine hK _ _ ?_
                    clear hK K
                    refine @wpList_load_known _ _ _ _ _ _ _ ?hw99067 22 (.tmp 111) rfl (mb) (0) rfl (.agg jc) (HK0.out _ _ (N.out.rw _ (List.mem_cons_of_mem _ (List.mem_cons_self ..))).1) ?_
                    case hw99067 => kernel_rfl
                    simp only [Act.put, List.setIfInBounds_toArray, List.set_cons_zero, List.set_cons_succ]
                    refine @BigFrame.wpList_want _ _ _ _ _ _ _ ?hw99068 ?_
                    case hw99068 => kernel_rfl
                    intro K hK
                    go_simp
                    refine hK _ _ ?_
                    clear hK K
                    refine @wpList_load_known _ _ _ _ _ _ _ ?hw99069 22 (.tmp 113) rfl (mb) (64) rfl (.agg s2) (HK2.out _ _ (N.out.rw _ (List.mem_cons_of_mem _ (List.mem_cons_self ..))).1) ?_
                    case hw99069 => kernel_rfl
                    simp only [Act.put, List.setIfInBounds_toArray, List.set_cons_zero, List.set_cons_succ]
                    refine @BigFrame.wpList_want _ _ _ _ _ _ _ ?hw99070 ?_
                    case hw99070 => kernel_rfl
                    intro K hK
                    go_simp
                    refine hK _ _ ?_
                    clear hK K
                    refine @wpList_load_known _ _ _ _ _ _ _ ?hw99071 22 (.tmp 115) rfl (mb) (32) rfl (.agg s1) (HK1.out _ _ (N.out.rw _ (List.mem_cons_of_mem _ (List.mem_cons_self ..))).1) ?_
                    case hw99071 => kernel_rfl
                    simp only [Act.put, List.setIfInBounds_toArray, List.set_cons_zero, List.set_cons_succ]
                    refine @wpL_sliceN _ _ _ _ _ _ _ _ ?hw99063 47 3 _ rfl #[(0, .agg jc), (1, .agg s2), (2, .agg s1)] (by simp only [List.map_toArray, List.map_cons, List.map_nil]; rfl) _ (HB3.out _) ?_
                    case hw99063 => kernel_rfl
                    simp only [Act.put, List.setIfInBounds_toArray, List.set_cons_zero, List.set_cons_succ]
                    have kn : Kept wc.heap.size wc.heap.size wc (wc.alloc (.cells xl 22)) := (Kept.refl _ _ _).alloc (Nat.le_refl _) _
                    have Rg3 := Lib.hid (heap_new wc (.cells xl 22))
                    have P1 := Lib.hid (N.out.kept kn)
                    clear kn
                    generalize wc.alloc (.cells xl 22) = z1 at Rg3 P1   ⊢
                    generalize wc.heap.size = g3 at Rg3 ⊢
                    obtain ⟨ga, ca, z2, hap, k2, hra⟩ := HAP.out z1 ab g3 (P1.out.rw _ (List.mem_cons_self ..)).1 Rg3.out
                    have HAPR := Lib.hid hap
                    have P2 := Lib.hid (P1.out.kept k2)
                    have HRA := Lib.hid (HPICK.out z2 ga hra)
                    clear hap k2 hra P1 Rg3 N
                    refine wpList_append_known rfl (.tmp 110) (.tmp 117) 47 47 47 rfl rfl (.slice (some ⟨ab, 0, none⟩) 4 4) (.slice (some ⟨g3, 0, none⟩) 3 3) rfl rfl HAPR.out ?_
                    simp only [Act.put, List.setIfInBounds_toArray, List.set_cons_zero, List.set_cons_succ]
                    clear HAPR
                    refine @BigFrame.wpList_want _ _ _ _ _ _ _ ?hw99072 ?_
                    case hw99072 => kernel_rfl
                    intro K hK
                    go_simp
                    refine hK _ _ ?_
                    clear hK K
                    refine @BigFrame.wpList_want _ _ _ _ _ _ _ ?hw99073 ?_
                    case hw99073 => kernel_rfl
                    intro K hK
                    go_simp
                    refine hK _ _ ?_
                    clear hK K
                    refine @BigFrame.wpList_want _ _ _ _ _ _ _ ?hw99074 ?_
                    case hw99074 => kernel_rfl
                    intro K hK
                    go_simp
                    refine hK _ _ ?_
                    clear hK K
                    refine @BigFrame.wpList_want _ _ _ _ _ _ _ ?hw99075 ?_
                    case hw99075 => kernel_rfl
                    intro K hK
                    go_simp
                    refine hK _ _ ?_
                    clear hK K
                    refine @wpList_load_known _ _ _ _ _ _ _ ?hw99076 22 (.tmp 122) rfl (ga) (dn * 32) rfl (.agg fc) (HRA.out) ?_
                    case hw99076 => kernel_rfl
                    simp only [Act.put, List.setIfInBounds_toArray, List.set_cons_zero, List.set_cons_succ]
                    refine @wpL_alloc _ _ _ _ _ _ _ _ ?hw99077 22 rfl _ (alloc_arr11 _) ?_
                    case hw99077 => kernel_rfl
                    simp only [Act.put, List.setIfInBounds_toArray, List.set_cons_zero, List.set_cons_succ]
                    refine wpList_store_row rfl 22 _ _ rfl (z2.heap.size) fc rfl rfl 22 zeros32 (heap_new _ _) (HIC.out) (HZC.out) (HAC.out) ?_
                    simp only [Act.put]
                    rw [World.setRow_alloc_new]
                    have kn : Kept z2.heap.size z2.heap.size z2 (z2.alloc (.cells fc 22)) := (Kept.refl _ _ _).alloc (Nat.le_refl _) _
                    have Rfb := Lib.hid (heap_new z2 (.cells fc 22))
                    have P3 := Lib.hid (P2.out.kept kn)
                    clear kn
                    generalize z2.alloc (.cells fc 22) = z3 at Rfb P3   ⊢
                    generalize z2.heap.size = fb at Rfb ⊢
                    clear P2 HRA
                    as_aux_lemma =>
                      go_upto_region 18 with fail
                      refine wp_region_lit ?_
                      refine @BigFrame.wpList_want _ _ _ _ _ _ _ ?hw99080 ?_
                      case hw99080 => kernel_rfl
                      intro K hK
                      go_simp
                      refine hK _ _ ?_
                      clear hK K
                      refine @wpList_load_known _ _ _ _ _ _ _ ?hw99081 22 (.tmp 14) rfl (fb) (0) rfl (.agg fc) (HLC22.out _ _ Rfb.out) ?_
                      case hw99081 => kernel_rfl
                      simp only [Act.put, List.setIfInBounds_toArray, List.set_cons_zero, List.set_cons_succ]
                      refine @BigFrame.wpList_want _ _ _ _ _ _ _ ?hw99078 ?_
                      case hw99078 => kernel_rfl
                      intro K hK
                      refine wp_build_one _ 51 23 rfl i1 z9 Tryd.underlying51 HI1.out HZ1h.out fc rfl (by rw [HS1.out]; exact HFC32.out) (by rw [HS1.out]; decide) (by rw [HS1.out]; decide) ?_
                      refine hK _ _ ?_
                      clear hK K
                      simp only [Act.put, List.setIfInBounds_toArray, List.set_cons_zero, List.set_cons_succ]
                      have kn : Kept z3.heap.size z3.heap.size z3 (z3.alloc (.cells fc 23)) := (Kept.refl _ _ _).alloc (Nat.le_refl _) _
                      have Rgq := Lib.hid (heap_new z3 (.cells fc 23))
                      have P4 := Lib.hid (P3.out.kept kn)
                      replace Rfb := Lib.hid (row_kept Rfb.out kn)
                      clear kn
                      generalize z3.alloc (.cells fc 23) = z4 at Rgq P4 Rfb  ⊢
                      generalize z3.heap.size = gq at Rgq ⊢
                      refine @BigFrame.wpList_want _ _ _ _ _ _ _ ?hw99079 ?_
                      case hw99079 => kernel_rfl
                      intro K hK
                      go_simp
                      go_at_call 25
                      refine (HFO.out z4 b2 bb P4.out.bk gq Rgq.out).mono ?_
                      rintro e z5 ⟨r, M, rfl, hM, hI, k5⟩
                      have P5 := Lib.hid (P4.out.kept k5)
                      replace Rfb := Lib.hid (row_kept Rfb.out k5)
                      have HI5 := Lib.hid hI
                      have HM := Lib.hid hM
                      have HML := Lib.hid (HLEN.out M hI)
                      have HM32 := Lib.hid hM.1
                      obtain ⟨rad, rc, rfl⟩ : ∃ rad rc, r = .slice rad M.length rc := by
                        obtain ⟨_, ad, _, _, c, h, _⟩ := hM
                        exact ⟨ad, c, h⟩
                      clear hI hM k5 P4 P3 Rgq
                      refine hK _ _ ?_
                      clear hK K
                      refine @BigFrame.wpList_want _ _ _ _ _ _ _ ?hw99082 ?_
                      case hw99082 => kernel_rfl
                      intro K hK
                      go_simp
                      refine hK _ _ ?_
                      clear hK K
                      as_aux_lemma =>
                        go_upto_region 19 with fail
                        refine wp_region_lit ?_
                        refine @BigFrame.wpList_want _ _ _ _ _ _ _ ?hw99085 ?_
                        case hw99085 => kernel_rfl
                        intro K hK
                        go_simp
                        refine hK _ _ ?_
                        clear hK K
                        refine @wpList_load_known _ _ _ _ _ _ _ ?hw99086 22 (.tmp 14) rfl (fb) (0) rfl (.agg fc) (HLC22.out _ _ Rfb.out) ?_
                        case hw99086 => kernel_rfl
                        simp only [Act.put, List.setIfInBounds_toArray, List.set_cons_zero, List.set_cons_succ]
                        refine @BigFrame.wpList_want _ _ _ _ _ _ _ ?hw99083 ?_
                        case hw99083 => kernel_rfl
                        intro K hK
                        refine wp_build_one _ 47 22 rfl i0 z0 Tryd.underlying47 HI0.out HZ0.out fc rfl (by rw [HS0.out]; exact HFC32.out) (by rw [HS0.out]; decide) (by rw [HS0.out]; decide) ?_
                        refine hK _ _ ?_
                        clear hK K
                        simp only [Act.put, List.setIfInBounds_toArray, List.set_cons_zero, List.set_cons_succ]
                        have kn : Kept z5.heap.size z5.heap.size z5 (z5.alloc (.cells fc 22)) := (Kept.refl _ _ _).alloc (Nat.le_refl _) _
                        have Rgr := Lib.hid (heap_new z5 (.cells fc 22))
                        have P6 := Lib.hid (P5.out.kept kn)
                        replace HM := Lib.hid (HM.out.kept kn)
                        clear kn
                        generalize z5.alloc (.cells fc 22) = z6 at Rgr P6  HM ⊢
                        generalize z5.heap.size = gr at Rgr ⊢
                        refine @BigFrame.wpList_want _ _ _ _ _ _ _ ?hw99084 ?_
                        case hw99084 => kernel_rfl
                        intro K hK
                        go_simp
                        go_at_call 26
                        refine (HRF.out z6 _ P6.out.ls.fs gr Rgr.out).mono ?_
                        rintro e z7 ⟨r2, M2, rfl, o7, hI2, k7⟩
                        obtain rfl : M2 = M := hI2.one HI5.out
                        have P7 := Lib.hid (P6.out.kept k7)
                        have HX := Lib.hid (HM.out.kept k7)
                        have HT := Lib.hid o7.hs
                        obtain ⟨tad, tc, rfl⟩ : ∃ tad tc, r2 = .slice tad M2.length tc := by
                          obtain ⟨_, ad, _, _, c, h, _⟩ := o7.hs
                          exact ⟨ad, c, h⟩
                        clear o7 hI2 k7 P5 P6 HM HI5 Rfb Rgr
                        obtain ⟨h0, xad, xg, xo, xc, hx1, hx2⟩ := HX.out
                        injection hx1 with hx1 _ hx3
                        subst hx1 hx3
                        obtain ⟨_, yad, yg, yo, yc, hy1, hy2⟩ := HT.out
                        injection hy1 with hy1 _ hy3
                        subst hy1 hy3
                        have HX2 := Lib.hid hx2
                        have HY2 := Lib.hid hy2
                        clear hx2 hy2 HX HT h0
                        obtain ⟨ml, hml⟩ : ∃ t, t = M2.length := ⟨_, rfl⟩
                        have HMLE := Lib.hid hml
                        rw [← hml] at HML ⊢
                        clear hml
                        refine hK _ _ ?_
                        clear hK K
                        refine @BigFrame.wpList_want _ _ _ _ _ _ _ ?hw99087 ?_
                        case hw99087 => kernel_rfl
                        intro K hK
                        go_simp
                        refine hK _ _ ?_
                        clear hK K
                        as_aux_lemma =>
                          go_upto_region 20 with fail
                          refine wp_region_lit ?_
                          refine @BigFrame.wpList_want _ _ _ _ _ _ _ ?hw99089 ?_
                          case hw99089 => kernel_rfl
                          intro K hK
                          go_simp
                          refine hK _ _ ?_
                          clear hK K
                          refine @BigFrame.wpList_want _ _ _ _ _ _ _ ?hw99088 ?_
                          case hw99088 => kernel_rfl
                          intro K hK
                          go_simp
                          go_at_call 27
                          refine (HLN.out z7 b2 bb P7.out.bk).mono ?_
                          rintro e z8 ⟨rfl, e8⟩
                          have e9 := e8.symm
                          clear e8
                          subst e9
                          refine hK _ _ ?_
                          clear hK K
                          refine @BigFrame.wpList_want _ _ _ _ _ _ _ ?hw99090 ?_
                          case hw99090 => kernel_rfl
                          intro K hK
                          go_simp
                          refine hK _ _ ?_
                          clear hK K
                          refine @BigFrame.wpList_want _ _ _ _ _ _ _ ?hw99091 ?_
                          case hw99091 => kernel_rfl
                          intro K hK
                          go_simp
                          refine hK _ _ ?_
                          clear hK K
                          refine @BigFrame.wpList_want _ _ _ _ _ _ _ ?hw99092 ?_
                          case hw99092 => kernel_rfl
                          intro K hK
                          go_simp
                          refine hK _ _ ?_
                          clear hK K
                          refine @BigFrame.wpList_want _ _ _ _ _ _ _ ?hw99093 ?_
                          case hw99093 => kernel_rfl
                          intro K hK
                          go_simp
                          refine hK _ _ ?_
                          clear hK K
                          refine @BigFrame.wpList_want _ _ _ _ _ _ _ ?hw99094 ?_
                          case hw99094 => kernel_rfl
                          intro K hK
                          go_simp
                          refine hK _ _ ?_
                          clear hK K
                          refine @BigFrame.wpList_want _ _ _ _ _ _ _ ?hw99095 ?_
                          case hw99095 => kernel_rfl
                          intro K hK
                          go_simp
                          refine hK _ _ ?_
                          clear hK K
                          refine @BigFrame.wpList_want _ _ _ _ _ _ _ ?hw99096 ?_
                          case hw99096 => kernel_rfl
                          intro K hK
                          go_simp
                          refine hK _ _ ?_
                          clear hK K
                          refine @BigFrame.wpList_want _ _ _ _ _ _ _ ?hw99097 ?_
                          case hw99097 => kernel_rfl
                          intro K hK
                          go_simp
                          refine hK _ _ ?_
                          clear hK K
                          refine @BigFrame.wpList_want _ _ _ _ _ _ _ ?hw99098 ?_
                          case hw99098 => kernel_rfl
                          intro K hK
                          go_simp
                          refine hK _ _ ?_
                          clear hK K
                          refine @BigFrame.wpList_want _ _ _ _ _ _ _ ?hw99099 ?_
                          case hw99099 => kernel_rfl
                          intro K hK
                          go_simp
                          refine hK _ _ ?_
                          clear hK K
                          go_wp2
                          go_loopw [17] (fun s17 wr => ∃ i : Nat, s17 = .int .i64 (i : Int) ∧ Hid (i ≤ ml) ∧ Hid (Kept z7.heap.size z7.heap.size z7 wr)) (fun s17 _ => ml - (RowKit.intOf s17).toNat)
                          case atStart => exact ⟨0, rfl, Lib.hid (Nat.zero_le _), Lib.hid (Kept.refl _ _ _)⟩
                          case round =>
                            obtain ⟨i, rfl, hi, HK⟩ := hrel
                            have hmx := HML.out
                            by_cases hlt : i < ml
                            · have hlti : (i : Int) < (ml : Int) := by omega
                              have hi0 : ¬ (i : Int) < 0 := by omega
                              have HLT := Lib.hid hlt
                              have hiM : i < M2.length := by rw [← HMLE.out]; exact hlt
                              obtain ⟨rfl, hgx, hrx⟩ := HX2.out i hiM
                              obtain ⟨rfl, hgy, hry⟩ := HY2.out i hiM
                              have h32 := HM32.out _ (List.getElem_mem hiM)
                              have HLX := Lib.hid (fun (x : World) (k : Kept z7.heap.size z7.heap.size z7 x) => run_loadVar_mid x xg (xo + i * 32) 23 _ _ (rangeAt_kept k hrx hgx (Nat.ne_of_lt hgx)) Tryd.underlying23 rfl (by have := keyInfo11 h32; simpa using this))
                              have HLY := Lib.hid (fun (x : World) (k : Kept z7.heap.size z7.heap.size z7 x) => run_loadVar_mid x yg (yo + i * 32) 22 _ _ (rangeAt_kept k hry hgy (Nat.ne_of_lt hgy)) Tryd.underlying22 rfl (by have := keyInfo22 h32; simpa using this))
                              have heq := fun x => mac_equalIn x M2[i] h32
                              obtain ⟨oc, hoc⟩ : ∃ t, t = (bcells M2[i]).toArray := ⟨_, rfl⟩
                              rw [← hoc] at HLX HLY heq
                              have KD := HK.out.drew
                              clear hoc hlt hiM hgx hrx hgy hry h32
                              go_upto_region 25 with fail
                              refine wp_region_noPanic ?_
                              refine wp_region_held_drew (S := fun w' => Kept z7.heap.size z7.heap.size z7 w') (by kernel_rfl) (KD) (fun hH => ?_)
                              refine wpAnyH_take_ex (i := 0) 150 rfl rfl (by kernel_rfl) (by kernel_rfl) (by kernel_rfl) (fun _ _ _ _ h => h) (by kernel_rfl) hH ?_
                              apply Exists.intro
                              apply And.intro
                              · intro w9 _
                                go_simp
                                first | done | rfl
                              simp only [List.setIfInBounds_toArray, List.set_cons_zero, List.set_cons_succ]
                              refine wpAnyH_take_ex (i := 1) 151 rfl rfl (by kernel_rfl) (by kernel_rfl) (by kernel_rfl) (fun _ _ _ _ h => h) (by kernel_rfl) hH ?_
                              apply Exists.intro
                              apply And.intro
                              · intro w9 _
                                go_simp
                                first | done | rfl
                              simp only [List.setIfInBounds_toArray, List.set_cons_zero, List.set_cons_succ]
                              refine wpAnyH_take_ex (i := 2) 152 rfl rfl (by kernel_rfl) (by kernel_rfl) (by kernel_rfl) (fun _ _ _ _ h => h) (by kernel_rfl) hH ?_
                              apply Exists.intro
                              apply And.intro
                              · intro w9 _
                                go_simp
                                first | done | rfl
                              simp only [List.setIfInBounds_toArray, List.set_cons_zero, List.set_cons_succ]
                              refine wpAnyH_take_at (i := 3) 153 (.agg oc) rfl rfl (by kernel_rfl) (by kernel_rfl) (by kernel_rfl) (fun _ _ _ h => h) (yieldsIf_load_known (by kernel_rfl) 23 _ rfl (xg) (xo + i * 32) rfl (.agg oc) (HLX.out)) hH ?_
                              simp only [List.setIfInBounds_toArray, List.set_cons_zero, List.set_cons_succ]
                              refine wpAnyH_take_ex (i := 4) 154 rfl rfl (by kernel_rfl) (by kernel_rfl) (by kernel_rfl) (fun _ _ _ _ h => h) (by kernel_rfl) hH ?_
                              apply Exists.intro
                              apply And.intro
                              · intro w9 _
                                go_simp
                                first | done | rfl
                              simp only [List.setIfInBounds_toArray, List.set_cons_zero, List.set_cons_succ]
                              refine wpAnyH_take_ex (i := 5) 155 rfl rfl (by kernel_rfl) (by kernel_rfl) (by kernel_rfl) (fun _ _ _ _ h => h) (by kernel_rfl) hH ?_
                              apply Exists.intro
                              apply And.intro
                              · intro w9 _
                                go_simp
                                first | done | rfl
                              simp only [List.setIfInBounds_toArray, List.set_cons_zero, List.set_cons_succ]
                              refine wpAnyH_take_ex (i := 6) 156 rfl rfl (by kernel_rfl) (by kernel_rfl) (by kernel_rfl) (fun _ _ _ _ h => h) (by kernel_rfl) hH ?_
                              apply Exists.intro
                              apply And.intro
                              · intro w9 _
                                go_simp
                                first | done | rfl
                              simp only [List.setIfInBounds_toArray, List.set_cons_zero, List.set_cons_succ]
                              refine wpAnyH_take_at (i := 7) 157 (.agg oc) rfl rfl (by kernel_rfl) (by kernel_rfl) (by kernel_rfl) (fun _ _ _ h => h) (yieldsIf_load_known (by kernel_rfl) 22 _ rfl (yg) (yo + i * 32) rfl (.agg oc) (HLY.out)) hH ?_
                              simp only [List.setIfInBounds_toArray, List.set_cons_zero, List.set_cons_succ]
                              refine wpAnyH_take_ex (i := 8) 158 rfl rfl (by kernel_rfl) (by kernel_rfl) (by kernel_rfl) (fun _ _ _ _ h => h) (by kernel_rfl) hH ?_
                              apply Exists.intro
                              apply And.intro
                              · intro w9 _
                                go_simp
                                first | done | rfl
                              simp only [List.setIfInBounds_toArray, List.set_cons_zero, List.set_cons_succ]
                              refine wpAnyH_done (by kernel_rfl) ?_ _
                              refine NoPanic.normal ?_
                              go_wp2
                              go_roundw
                              case rel => exact ⟨i + 1, by go_num, Lib.hid HLT.out, Lib.hid HK.out.drew⟩
                              case measure => have := HLT.out; simp [RowKit.intOf]; omega
                            · have hnl : ¬ (i : Int) < (ml : Int) := by omega
                              go_wp2
                              go_ret
                              exact ⟨rfl, P7.out.kp.onto HK.out⟩
                · have HGO := Lib.hid (HGOUT.out hn)
                  by_cases hn0 : 0 ≤ n
                  · have hd1 : decide (n ≥ 0) = true := decide_eq_true hn0
                    have hd2 : decide (n < 64) = false := decide_eq_false (fun h => hn ⟨hn0, h⟩)
                    clear hn hn0
                    have N : Hid (Kn w b2 bb 21 G L0 [(ab, al, 22), (mb, fu, 29)] w14 (.slice lad (Ky.mf [] j c 6).length lc) G) := Lib.hid (by have := N14.out; rw [HGO.out] at this ⊢; exact this)
                    clear N14
                    have hlg : (Ky.mf [] j c 6).length = G.length := by rw [HGO.out]
                    obtain ⟨ln, hln⟩ : ∃ t, t = G.length := ⟨_, rfl⟩
                    rw [hlg] at N ⊢
                    rw [← hln] at N HLN ⊢
                    clear hln hlg HGO
                    generalize w14 = wc at N ⊢
                    go_upto_region 17 with fail
                    refine wp_region_lit ?_
                    refine @BigFrame.wpList_want _ _ _ _ _ _ _ ?hw1099065 ?_
                    case hw1099065 => kernel_rfl
                    intro K hK
                    go_simp
                    refine hK _ _ ?_
                    clear hK K
                    refine @BigFrame.wpList_want _ _ _ _ _ _ _ ?hw1099066 ?_
                    case hw1099066 => kernel_rfl
                    intro K hK
                    go_simp
                    refine hK _ _ ?_
                    clear hK K
                    refine @wpList_load_known _ _ _ _ _ _ _ ?hw1099067 22 (.tmp 111) rfl (mb) (0) rfl (.agg jc) (HK0.out _ _ (N.out.rw _ (List.mem_cons_of_mem _ (List.mem_cons_self ..))).1) ?_
                    case hw1099067 => kernel_rfl
                    simp only [Act.put, List.setIfInBounds_toArray, List.set_cons_zero, List.set_cons_succ]
                    refine @BigFrame.wpList_want _ _ _ _ _ _ _ ?hw1099068 ?_
                    case hw1099068 => kernel_rfl
                    intro K hK
                    go_simp
                    refine hK _ _ ?_
                    clear hK K
                    refine @wpList_load_known _ _ _ _ _ _ _ ?hw1099069 22 (.tmp 113) rfl (mb) (64) rfl (.agg s2) (HK2.out _ _ (N.out.rw _ (List.mem_cons_of_mem _ (List.mem_cons_self ..))).1) ?_
                    case hw1099069 => kernel_rfl
                    simp only [Act.put, List.setIfInBounds_toArray, List.set_cons_zero, List.set_cons_succ]
                    refine @BigFrame.wpList_want _ _ _ _ _ _ _ ?hw1099070 ?_
                    case hw1099070 => kernel_rfl
                    intro K hK
                    go_simp
                    refine hK _ _ ?_
                    clear hK K
                    refine @wpList_load_known _ _ _ _ _ _ _ ?hw1099071 22 (.tmp 115) rfl (mb) (32) rfl (.agg s1) (HK1.out _ _ (N.out.rw _ (List.mem_cons_of_mem _ (List.mem_cons_self ..))).1) ?_
                    case hw1099071 => kernel_rfl
                    simp only [Act.put, List.setIfInBounds_toArray, List.set_cons_zero, List.set_cons_succ]
                    refine @wpL_sliceN _ _ _ _ _ _ _ _ ?hw1099063 47 3 _ rfl #[(0, .agg jc), (1, .agg s2), (2, .agg s1)] (by simp only [List.map_toArray, List.map_cons, List.map_nil]; rfl) _ (HB3.out _) ?_
                    case hw1099063 => kernel_rfl
                    simp only [Act.put, List.setIfInBounds_toArray, List.set_cons_zero, List.set_cons_succ]
                    have kn : Kept wc.heap.size wc.heap.size wc (wc.alloc (.cells xl 22)) := (Kept.refl _ _ _).alloc (Nat.le_refl _) _
                    have Rg3 := Lib.hid (heap_new wc (.cells xl 22))
                    have P1 := Lib.hid (N.out.kept kn)
                    clear kn
                    generalize wc.alloc (.cells xl 22) = z1 at Rg3 P1   ⊢
                    generalize wc.heap.size = g3 at Rg3 ⊢
                    obtain ⟨ga, ca, z2, hap, k2, hra⟩ := HAP.out z1 ab g3 (P1.out.rw _ (List.mem_cons_self ..)).1 Rg3.out
                    have HAPR := Lib.hid hap
                    have P2 := Lib.hid (P1.out.kept k2)
                    have HRA := Lib.hid (HPICK.out z2 ga hra)
                    clear hap k2 hra P1 Rg3 N
                    refine wpList_append_known rfl (.tmp 110) (.tmp 117) 47 47 47 rfl rfl (.slice (some ⟨ab, 0, none⟩) 4 4) (.slice (some ⟨g3, 0, none⟩) 3 3) rfl rfl HAPR.out ?_
                    simp only [Act.put, List.setIfInBounds_toArray, List.set_cons_zero, List.set_cons_succ]
                    clear HAPR
                    refine @BigFrame.wpList_want _ _ _ _ _ _ _ ?hw1099072 ?_
                    case hw1099072 => kernel_rfl
                    intro K hK
                    go_simp
                    refine hK _ _ ?_
                    clear hK K
                    refine @BigFrame.wpList_want _ _ _ _ _ _ _ ?hw1099073 ?_
                    case hw1099073 => kernel_rfl
                    intro K hK
                    go_simp
                    refine hK _ _ ?_
                    clear hK K
                    refine @BigFrame.wpList_want _ _ _ _ _ _ _ ?hw1099074 ?_
                    case hw1099074 => kernel_rfl
                    intro K hK
                    go_simp
                    refine hK _ _ ?_
                    clear hK K
                    refine @BigFrame.wpList_want _ _ _ _ _ _ _ ?hw1099075 ?_
                    case hw1099075 => kernel_rfl
                    intro K hK
                    go_simp
                    refine hK _ _ ?_
                    clear hK K
                    refine @wpList_load_known _ _ _ _ _ _ _ ?hw1099076 22 (.tmp 122) rfl (ga) (dn * 32) rfl (.agg fc) (HRA.out) ?_
                    case hw1099076 => kernel_rfl
                    simp only [Act.put, List.setIfInBounds_toArray, List.set_cons_zero, List.set_cons_succ]
                    refine @wpL_alloc _ _ _ _ _ _ _ _ ?hw1099077 22 rfl _ (alloc_arr11 _) ?_
                    case hw1099077 => kernel_rfl
                    simp only [Act.put, List.setIfInBounds_toArray, List.set_cons_zero, List.set_cons_succ]
                    refine wpList_store_row rfl 22 _ _ rfl (z2.heap.size) fc rfl rfl 22 zeros32 (heap_new _ _) (HIC.out) (HZC.out) (HAC.out) ?_
                    simp only [Act.put]
                    rw [World.setRow_alloc_new]
                    have kn : Kept z2.heap.size z2.heap.size z2 (z2.alloc (.cells fc 22)) := (Kept.refl _ _ _).alloc (Nat.le_refl _) _
                    have Rfb := Lib.hid (heap_new z2 (.cells fc 22))
                    have P3 := Lib.hid (P2.out.kept kn)
                    clear kn
                    generalize z2.alloc (.cells fc 22) = z3 at Rfb P3   ⊢
                    generalize z2.heap.size = fb at Rfb ⊢
                    clear P2 HRA
                    as_aux_lemma =>
                      go_upto_region 18 with fail
                      refine wp_region_lit ?_
                      refine @BigFrame.wpList_want _ _ _ _ _ _ _ ?hw1099080 ?_
                      case hw1099080 => kernel_rfl
                      intro K hK
                      go_simp
                      refine hK _ _ ?_
                      clear hK K
                      refine @wpList_load_known _ _ _ _ _ _ _ ?hw1099081 22 (.tmp 14) rfl (fb) (0) rfl (.agg fc) (HLC22.out _ _ Rfb.out) ?_
                      case hw1099081 => kernel_rfl
                      simp only [Act.put, List.setIfInBounds_toArray, List.set_cons_zero, List.set_cons_succ]
                      refine @BigFrame.wpList_want _ _ _ _ _ _ _ ?hw1099078 ?_
                      case hw1099078 => kernel_rfl
                      intro K hK
                      refine wp_build_one _ 51 23 rfl i1 z9 Tryd.underlying51 HI1.out HZ1h.out fc rfl (by rw [HS1.out]; exact HFC32.out) (by rw [HS1.out]; decide) (by rw [HS1.out]; decide) ?_
                      refine hK _ _ ?_
                      clear hK K
                      simp only [Act.put, List.setIfInBounds_toArray, List.set_cons_zero, List.set_cons_succ]
                      have kn : Kept z3.heap.size z3.heap.size z3 (z3.alloc (.cells fc 23)) := (Kept.refl _ _ _).alloc (Nat.le_refl _) _
                      have Rgq := Lib.hid (heap_new z3 (.cells fc 23))
                      have P4 := Lib.hid (P3.out.kept kn)
                      replace Rfb := Lib.hid (row_kept Rfb.out kn)
                      clear kn
                      generalize z3.alloc (.cells fc 23) = z4 at Rgq P4 Rfb  ⊢
                      generalize z3.heap.size = gq at Rgq ⊢
                      refine @BigFrame.wpList_want _ _ _ _ _ _ _ ?hw1099079 ?_
                      case hw1099079 => kernel_rfl
                      intro K hK
                      go_simp
                      go_at_call 25
                      refine (HFO.out z4 b2 bb P4.out.bk gq Rgq.out).mono ?_
                      rintro e z5 ⟨r, M, rfl, hM, hI, k5⟩
                      have P5 := Lib.hid (P4.out.kept k5)
                      replace Rfb := Lib.hid (row_kept Rfb.out k5)
                      have HI5 := Lib.hid hI
                      have HM := Lib.hid hM
                      have HML := Lib.hid (HLEN.out M hI)
                      have HM32 := Lib.hid hM.1
                      obtain ⟨rad, rc, rfl⟩ : ∃ rad rc, r = .slice rad M.length rc := by
                        obtain ⟨_, ad, _, _, c, h, _⟩ := hM
                        exact ⟨ad, c, h⟩
                      clear hI hM k5 P4 P3 Rgq
                      refine hK _ _ ?_
                      clear hK K
                      refine @BigFrame.wpList_want _ _ _ _ _ _ _ ?hw1099082 ?_
                      case hw1099082 => kernel_rfl
                      intro K hK
                      go_simp
                      refine hK _ _ ?_
                      clear hK K
                      as_aux_lemma =>
                        go_upto_region 19 with fail
                        refine wp_region_lit ?_
                        refine @BigFrame.wpList_want _ _ _ _ _ _ _ ?hw1099085 ?_
                        case hw1099085 => kernel_rfl
                        intro K hK
                        go_simp
                        refine hK _ _ ?_
                        clear hK K
                        refine @wpList_load_known _ _ _ _ _ _ _ ?hw1099086 22 (.tmp 14) rfl (fb) (0) rfl (.agg fc) (HLC22.out _ _ Rfb.out) ?_
                        case hw1099086 => kernel_rfl
                        simp only [Act.put, List.setIfInBounds_toArray, List.set_cons_zero, List.set_cons_succ]
                        refine @BigFrame.wpList_want _ _ _ _ _ _ _ ?hw1099083 ?_
                        case hw1099083 => kernel_rfl
                        intro K hK
                        refine wp_build_one _ 47 22 rfl i0 z0 Tryd.underlying47 HI0.out HZ0.out fc rfl (by rw [HS0.out]; exact HFC32.out) (by rw [HS0.out]; decide) (by rw [HS0.out]; decide) ?_
                        refine hK _ _ ?_
                        clear hK K
                        simp only [Act.put, List.setIfInBounds_toArray, List.set_cons_zero, List.set_cons_succ]
                        have kn : Kept z5.heap.size z5.heap.size z5 (z5.alloc (.cells fc 22)) := (Kept.refl _ _ _).alloc (Nat.le_refl _) _
                        have Rgr := Lib.hid (heap_new z5 (.cells fc 22))
                        have P6 := Lib.hid (P5.out.kept kn)
                        replace HM := Lib.hid (HM.out.kept kn)
                        clear kn
                        generalize z5.alloc (.cells fc 22) = z6 at Rgr P6  HM ⊢
                        generalize z5.heap.size = gr at Rgr ⊢
                        refine @BigFrame.wpList_want _ _ _ _ _ _ _ ?hw1099084 ?_
                        case hw1099084 => kernel_rfl
                        intro K hK
                        go_simp
                        go_at_call 26
                        refine (HRF.out z6 _ P6.out.ls.fs gr Rgr.out).mono ?_
                        rintro e z7 ⟨r2, M2, rfl, o7, hI2, k7⟩
                        obtain rfl : M2 = M := hI2.one HI5.out
                        have P7 := Lib.hid (P6.out.kept k7)
                        have HX := Lib.hid (HM.out.kept k7)
                        have HT := Lib.hid o7.hs
                        obtain ⟨tad, tc, rfl⟩ : ∃ tad tc, r2 = .slice tad M2.length tc := by
                          obtain ⟨_, ad, _, _, c, h, _⟩ := o7.hs
                          exact ⟨ad, c, h⟩
                        clear o7 hI2 k7 P5 P6 HM HI5 Rfb Rgr
                        obtain ⟨h0, xad, xg, xo, xc, hx1, hx2⟩ := HX.out
                        injection hx1 with hx1 _ hx3
                        subst hx1 hx3
                        obtain ⟨_, yad, yg, yo, yc, hy1, hy2⟩ := HT.out
                        injection hy1 with hy1 _ hy3
                        subst hy1 hy3
                        have HX2 := Lib.hid hx2
                        have HY2 := Lib.hid hy2
                        clear hx2 hy2 HX HT h0
                        obtain ⟨ml, hml⟩ : ∃ t, t = M2.length := ⟨_, rfl⟩
                        have HMLE := Lib.hid hml
                        rw [← hml] at HML ⊢
                        clear hml
                        refine hK _ _ ?_
                        clear hK K
                        refine @BigFrame.wpList_want _ _ _ _ _ _ _ ?hw1099087 ?_
                        case hw1099087 => kernel_rfl
                        intro K hK
                        go_simp
                        refine hK _ _ ?_
                        clear hK K
                        as_aux_lemma =>
                          go_upto_region 20 with fail
                          refine wp_region_lit ?_
                          refine @BigFrame.wpList_want _ _ _ _ _ _ _ ?hw1099089 ?_
                          case hw1099089 => kernel_rfl
                          intro K hK
                          go_simp
                          refine hK _ _ ?_
                          clear hK K
                          refine @BigFrame.wpList_want _ _ _ _ _ _ _ ?hw1099088 ?_
                          case hw1099088 => kernel_rfl
                          intro K hK
                          go_simp
                          go_at_call 27
                          refine (HLN.out z7 b2 bb P7.out.bk).mono ?_
                          rintro e z8 ⟨rfl, e8⟩
                          have e9 := e8.symm
                          clear e8
                          subst e9
                          refine hK _ _ ?_
                          clear hK K
                          refine @BigFrame.wpList_want _ _ _ _ _ _ _ ?hw1099090 ?_
                          case hw1099090 => kernel_rfl
                          intro K hK
                          go_simp
                          refine hK _ _ ?_
                          clear hK K
                          refine @BigFrame.wpList_want _ _ _ _ _ _ _ ?hw1099091 ?_
                          case hw1099091 => kernel_rfl
                          intro K hK
                          go_simp
                          refine hK _ _ ?_
                          clear hK K
                          refine @BigFrame.wpList_want _ _ _ _ _ _ _ ?hw1099092 ?_
                          case hw1099092 => kernel_rfl
                          intro K hK
                          go_simp
                          refine hK _ _ ?_
                          clear hK K
                          refine @BigFrame.wpList_want _ _ _ _ _ _ _ ?hw1099093 ?_
                          case hw1099093 => kernel_rfl
                          intro K hK
                          go_simp
                          refine hK _ _ ?_
                          clear hK K
                          refine @BigFrame.wpList_want _ _ _ _ _ _ _ ?hw1099094 ?_
                          case hw1099094 => kernel_rfl
                          intro K hK
                          go_simp
                          refine hK _ _ ?_
                          clear hK K
                          refine @BigFrame.wpList_want _ _ _ _ _ _ _ ?hw1099095 ?_
                          case hw1099095 => kernel_rfl
                          intro K hK
                          go_simp
                          refine hK _ _ ?_
                          clear hK K
                          refine @BigFrame.wpList_want _ _ _ _ _ _ _ ?hw1099096 ?_
                          case hw1099096 => kernel_rfl
                          intro K hK
                          go_simp
                          refine hK _ _ ?_
                          clear hK K
                          refine @BigFrame.wpList_want _ _ _ _ _ _ _ ?hw1099097 ?_
                          case hw1099097 => kernel_rfl
                          intro K hK
                          go_simp
                          refine hK _ _ ?_
                          clear hK K
                          refine @BigFrame.wpList_want _ _ _ _ _ _ _ ?hw1099098 ?_
                          case hw1099098 => kernel_rfl
                          intro K hK
                          go_simp
                          refine hK _ _ ?_
                          clear hK K
                          refine @BigFrame.wpList_want _ _ _ _ _ _ _ ?hw1099099 ?_
                          case hw1099099 => kernel_rfl
                          intro K hK
                          go_simp
                          refine hK _ _ ?_
                          clear hK K
                          go_wp2
                          go_loopw [17] (fun s17 wr => ∃ i : Nat, s17 = .int .i64 (i : Int) ∧ Hid (i ≤ ml) ∧ Hid (Kept z7.heap.size z7.heap.size z7 wr)) (fun s17 _ => ml - (RowKit.intOf s17).toNat)
                          case atStart => exact ⟨0, rfl, Lib.hid (Nat.zero_le _), Lib.hid (Kept.refl _ _ _)⟩
                          case round =>
                            obtain ⟨i, rfl, hi, HK⟩ := hrel
                            have hmx := HML.out
                            by_cases hlt : i < ml
                            · have hlti : (i : Int) < (ml : Int) := by omega
                              have hi0 : ¬ (i : Int) < 0 := by omega
                              have HLT := Lib.hid hlt
                              have hiM : i < M2.length := by rw [← HMLE.out]; exact hlt
                              obtain ⟨rfl, hgx, hrx⟩ := HX2.out i hiM
                              obtain ⟨rfl, hgy, hry⟩ := HY2.out i hiM
                              have h32 := HM32.out _ (List.getElem_mem hiM)
                              have HLX := Lib.hid (fun (x : World) (k : Kept z7.heap.size z7.heap.size z7 x) => run_loadVar_mid x xg (xo + i * 32) 23 _ _ (rangeAt_kept k hrx hgx (Nat.ne_of_lt hgx)) Tryd.underlying23 rfl (by have := keyInfo11 h32; simpa using this))
                              have HLY := Lib.hid (fun (x : World) (k : Kept z7.heap.size z7.heap.size z7 x) => run_loadVar_mid x yg (yo + i * 32) 22 _ _ (rangeAt_kept k hry hgy (Nat.ne_of_lt hgy)) Tryd.underlying22 rfl (by have := keyInfo22 h32; simpa using this))
                              have heq := fun x => mac_equalIn x M2[i] h32
                              obtain ⟨oc, hoc⟩ : ∃ t, t = (bcells M2[i]).toArray := ⟨_, rfl⟩
                              rw [← hoc] at HLX HLY heq
                              have KD := HK.out.drew
                              clear hoc hlt hiM hgx hrx hgy hry h32
                              go_upto_region 25 with fail
                              refine wp_region_noPanic ?_
                              refine wp_region_held_drew (S := fun w' => Kept z7.heap.size z7.heap.size z7 w') (by kernel_rfl) (KD) (fun hH => ?_)
                              refine wpAnyH_take_ex (i := 0) 150 rfl rfl (by kernel_rfl) (by kernel_rfl) (by kernel_rfl) (fun _ _ _ _ h => h) (by kernel_rfl) hH ?_
                              apply Exists.intro
                              apply And.intro
                              · intro w9 _
                                go_simp
                                first | done | rfl
                              simp only [List.setIfInBounds_toArray, List.set_cons_zero, List.set_cons_succ]
                              refine wpAnyH_take_ex (i := 1) 151 rfl rfl (by kernel_rfl) (by kernel_rfl) (by kernel_rfl) (fun _ _ _ _ h => h) (by kernel_rfl) hH ?_
                              apply Exists.intro
                              apply And.intro
                              · intro w9 _
                                go_simp
                                first | done | rfl
                              simp only [List.setIfInBounds_toArray, List.set_cons_zero, List.set_cons_succ]
                              refine wpAnyH_take_ex (i := 2) 152 rfl rfl (by kernel_rfl) (by kernel_rfl) (by kernel_rfl) (fun _ _ _ _ h => h) (by kernel_rfl) hH ?_
                              apply Exists.intro
                              apply And.intro
                              · intro w9 _
                                go_simp
                                first | done | rfl
                              simp only [List.setIfInBounds_toArray, List.set_cons_zero, List.set_cons_succ]
                              refine wpAnyH_take_at (i := 3) 153 (.agg oc) rfl rfl (by kernel_rfl) (by kernel_rfl) (by kernel_rfl) (fun _ _ _ h => h) (yieldsIf_load_known (by kernel_rfl) 23 _ rfl (xg) (xo + i * 32) rfl (.agg oc) (HLX.out)) hH ?_
                              simp only [List.setIfInBounds_toArray, List.set_cons_zero, List.set_cons_succ]
                              refine wpAnyH_take_ex (i := 4) 154 rfl rfl (by kernel_rfl) (by kernel_rfl) (by kernel_rfl) (fun _ _ _ _ h => h) (by kernel_rfl) hH ?_
                              apply Exists.intro
                              apply And.intro
                              · intro w9 _
                                go_simp
                                first | done | rfl
                              simp only [List.setIfInBounds_toArray, List.set_cons_zero, List.set_cons_succ]
                              refine wpAnyH_take_ex (i := 5) 155 rfl rfl (by kernel_rfl) (by kernel_rfl) (by kernel_rfl) (fun _ _ _ _ h => h) (by kernel_rfl) hH ?_
                              apply Exists.intro
                              apply And.intro
                              · intro w9 _
                                go_simp
                                first | done | rfl
                              simp only [List.setIfInBounds_toArray, List.set_cons_zero, List.set_cons_succ]
                              refine wpAnyH_take_ex (i := 6) 156 rfl rfl (by kernel_rfl) (by kernel_rfl) (by kernel_rfl) (fun _ _ _ _ h => h) (by kernel_rfl) hH ?_
                              apply Exists.intro
                              apply And.intro
                              · intro w9 _
                                go_simp
                                first | done | rfl
                              simp only [List.setIfInBounds_toArray, List.set_cons_zero, List.set_cons_succ]
                              refine wpAnyH_take_at (i := 7) 157 (.agg oc) rfl rfl (by kernel_rfl) (by kernel_rfl) (by kernel_rfl) (fun _ _ _ h => h) (yieldsIf_load_known (by kernel_rfl) 22 _ rfl (yg) (yo + i * 32) rfl (.agg oc) (HLY.out)) hH ?_
                              simp only [List.setIfInBounds_toArray, List.set_cons_zero, List.set_cons_succ]
                              refine wpAnyH_take_ex (i := 8) 158 rfl rfl (by kernel_rfl) (by kernel_rfl) (by kernel_rfl) (fun _ _ _ _ h => h) (by kernel_rfl) hH ?_
                              apply Exists.intro
                              apply And.intro
                              · intro w9 _
                                go_simp
                                first | done | rfl
                              simp only [List.setIfInBounds_toArray, List.set_cons_zero, List.set_cons_succ]
                              refine wpAnyH_done (by kernel_rfl) ?_ _
                              refine NoPanic.normal ?_
                              go_wp2
                              go_roundw
                              case rel => exact ⟨i + 1, by go_num, Lib.hid HLT.out, Lib.hid HK.out.drew⟩
                              case measure => have := HLT.out; simp [RowKit.intOf]; omega
                            · have hnl : ¬ (i : Int) < (ml : Int) := by omega
                              go_wp2
                              go_ret
                              exact ⟨rfl, P7.out.kp.onto HK.out⟩
                  · have hd1 : decide (n ≥ 0) = false := decide_eq_false hn0
                    clear hn hn0
                    have N : Hid (Kn w b2 bb 21 G L0 [(ab, al, 22), (mb, fu, 29)] w14 (.slice lad (Ky.mf [] j c 6).length lc) G) := Lib.hid (by have := N14.out; rw [HGO.out] at this ⊢; exact this)
                    clear N14
                    have hlg : (Ky.mf [] j c 6).length = G.length := by rw [HGO.out]
                    obtain ⟨ln, hln⟩ : ∃ t, t = G.length := ⟨_, rfl⟩
                    rw [hlg] at N ⊢
                    rw [← hln] at N HLN ⊢
                    clear hln hlg HGO
                    generalize w14 = wc at N ⊢
                    go_upto_region 17 with fail
                    refine wp_region_lit ?_
                    refine @BigFrame.wpList_want _ _ _ _ _ _ _ ?hw2099065 ?_
                    case hw2099065 => kernel_rfl
                    intro K hK
                    go_simp
                    refine hK _ _ ?_
                    clear hK K
                    refine @BigFrame.wpList_want _ _ _ _ _ _ _ ?hw2099066 ?_
                    case hw2099066 => kernel_rfl
                    intro K hK
                    go_simp
                    refine hK _ _ ?_
                    clear hK K
                    refine @wpList_load_known _ _ _ _ _ _ _ ?hw2099067 22 (.tmp 111) rfl (mb) (0) rfl (.agg jc) (HK0.out _ _ (N.out.rw _ (List.mem_cons_of_mem _ (List.mem_cons_self ..))).1) ?_
                    case hw2099067 => kernel_rfl
                    simp only [Act.put, List.setIfInBounds_toArray, List.set_cons_zero, List.set_cons_succ]
                    refine @BigFrame.wpList_want _ _ _ _ _ _ _ ?hw2099068 ?_
                    case hw2099068 => kernel_rfl
                    intro K hK
                    go_simp
                    refine hK _ _ ?_
                    clear hK K
                    refine @wpList_load_known _ _ _ _ _ _ _ ?hw2099069 22 (.tmp 113) rfl (mb) (64) rfl (.agg s2) (HK2.out _ _ (N.out.rw _ (List.mem_cons_of_mem _ (List.mem_cons_self ..))).1) ?_
                    case hw2099069 => kernel_rfl
                    simp only [Act.put, List.setIfInBounds_toArray, List.set_cons_zero, List.set_cons_succ]
                    refine @BigFrame.wpList_want _ _ _ _ _ _ _ ?hw2099070 ?_
                    case hw2099070 => kernel_rfl
                    intro K hK
                    go_simp
                    refine hK _ _ ?_
                    clear hK K
                    refine @wpList_load_known _ _ _ _ _ _ _ ?hw2099071 22 (.tmp 115) rfl (mb) (32) rfl (.agg s1) (HK1.out _ _ (N.out.rw _ (List.mem_cons_of_mem _ (List.mem_cons_self ..))).1) ?_
                    case hw2099071 => kernel_rfl
                    simp only [Act.put, List.setIfInBounds_toArray, List.set_cons_zero, List.set_cons_succ]
                    refine @wpL_sliceN _ _ _ _ _ _ _ _ ?hw2099063 47 3 _ rfl #[(0, .agg jc), (1, .agg s2), (2, .agg s1)] (by simp only [List.map_toArray, List.map_cons, List.map_nil]; rfl) _ (HB3.out _) ?_
                    case hw2099063 => kernel_rfl
                    simp only [Act.put, List.setIfInBounds_toArray, List.set_cons_zero, List.set_cons_succ]
                    have kn : Kept wc.heap.size wc.heap.size wc (wc.alloc (.cells xl 22)) := (Kept.refl _ _ _).alloc (Nat.le_refl _) _
                    have Rg3 := Lib.hid (heap_new wc (.cells xl 22))
                    have P1 := Lib.hid (N.out.kept kn)
                    clear kn
                    generalize wc.alloc (.cells xl 22) = z1 at Rg3 P1   ⊢
                    generalize wc.heap.size = g3 at Rg3 ⊢
                    obtain ⟨ga, ca, z2, hap, k2, hra⟩ := HAP.out z1 ab g3 (P1.out.rw _ (List.mem_cons_self ..)).1 Rg3.out
                    have HAPR := Lib.hid hap
                    have P2 := Lib.hid (P1.out.kept k2)
                    have HRA := Lib.hid (HPICK.out z2 ga hra)
                    clear hap k2 hra P1 Rg3 N
                    refine wpList_append_known rfl (.tmp 110) (.tmp 117) 47 47 47 rfl rfl (.slice (some ⟨ab, 0, none⟩) 4 4) (.slice (some ⟨g3, 0, none⟩) 3 3) rfl rfl HAPR.out ?_
                    simp only [Act.put, List.setIfInBounds_toArray, List.set_cons_zero, List.set_cons_succ]
                    clear HAPR
                    refine @BigFrame.wpList_want _ _ _ _ _ _ _ ?hw2099072 ?_
                    case hw2099072 => kernel_rfl
                    intro K hK
                    go_simp
                    refine hK _ _ ?_
                    clear hK K
                    refine @BigFrame.wpList_want _ _ _ _ _ _ _ ?hw2099073 ?_
                    case hw2099073 => kernel_rfl
                    intro K hK
                    go_simp
                    refine hK _ _ ?_
                    clear hK K
                    refine @BigFrame.wpList_want _ _ _ _ _ _ _ ?hw2099074 ?_
                    case hw2099074 => kernel_rfl
                    intro K hK
                    go_simp
                    refine hK _ _ ?_
                    clear hK K
                    refine @BigFrame.wpList_want _ _ _ _ _ _ _ ?hw2099075 ?_
                    case hw2099075 => kernel_rfl
                    intro K hK
                    go_simp
                    refine hK _ _ ?_
                    clear hK K
                    refine @wpList_load_known _ _ _ _ _ _ _ ?hw2099076 22 (.tmp 122) rfl (ga) (dn * 32) rfl (.agg fc) (HRA.out) ?_
                    case hw2099076 => kernel_rfl
                    simp only [Act.put, List.setIfInBounds_toArray, List.set_cons_zero, List.set_cons_succ]
                    refine @wpL_alloc _ _ _ _ _ _ _ _ ?hw2099077 22 rfl _ (alloc_arr11 _) ?_
                    case hw2099077 => kernel_rfl
                    simp only [Act.put, List.setIfInBounds_toArray, List.set_cons_zero, List.set_cons_succ]
                    refine wpList_store_row rfl 22 _ _ rfl (z2.heap.size) fc rfl rfl 22 zeros32 (heap_new _ _) (HIC.out) (HZC.out) (HAC.out) ?_
                    simp only [Act.put]
                    rw [World.setRow_alloc_new]
                    have kn : Kept z2.heap.size z2.heap.size z2 (z2.alloc (.cells fc 22)) := (Kept.refl _ _ _).alloc (Nat.le_refl _) _
                    have Rfb := Lib.hid (heap_new z2 (.cells fc 22))
                    have P3 := Lib.hid (P2.out.kept kn)
                    clear kn
                    generalize z2.alloc (.cells fc 22) = z3 at Rfb P3   ⊢
                    generalize z2.heap.size = fb at Rfb ⊢
                    clear P2 HRA
                    as_aux_lemma =>
                      go_upto_region 18 with fail
                      refine wp_region_lit ?_
                      refine @BigFrame.wpList_want _ _ _ _ _ _ _ ?hw2099080 ?_
                      case hw2099080 => kernel_rfl
                      intro K hK
                      go_simp
                      refine hK _ _ ?_
                      clear hK K
                      refine @wpList_load_known _ _ _ _ _ _ _ ?hw2099081 22 (.tmp 14) rfl (fb) (0) rfl (.agg fc) (HLC22.out _ _ Rfb.out) ?_
                      case hw2099081 => kernel_rfl
                      simp only [Act.put, List.setIfInBounds_toArray, List.set_cons_zero, List.set_cons_succ]
                      refine @BigFrame.wpList_want _ _ _ _ _ _ _ ?hw2099078 ?_
                      case hw2099078 => kernel_rfl
                      intro K hK
                      refine wp_build_one _ 51 23 rfl i1 z9 Tryd.underlying51 HI1.out HZ1h.out fc rfl (by rw [HS1.out]; exact HFC32.out) (by rw [HS1.out]; decide) (by rw [HS1.out]; decide) ?_
                      refine hK _ _ ?_
                      clear hK K
                      simp only [Act.put, List.setIfInBounds_toArray, List.set_cons_zero, List.set_cons_succ]
                      have kn : Kept z3.heap.size z3.heap.size z3 (z3.alloc (.cells fc 23)) := (Kept.refl _ _ _).alloc (Nat.le_refl _) _
                      have Rgq := Lib.hid (heap_new z3 (.cells fc 23))
                      have P4 := Lib.hid (P3.out.kept kn)
                      replace Rfb := Lib.hid (row_kept Rfb.out kn)
                      clear kn
                      generalize z3.alloc (.cells fc 23) = z4 at Rgq P4 Rfb  ⊢
                      generalize z3.heap.size = gq at Rgq ⊢
                      refine @BigFrame.wpList_want _ _ _ _ _ _ _ ?hw2099079 ?_
                      case hw2099079 => kernel_rfl
                      intro K hK
                      go_simp
                      go_at_call 25
                      refine (HFO.out z4 b2 bb P4.out.bk gq Rgq.out).mono ?_
                      rintro e z5 ⟨r, M, rfl, hM, hI, k5⟩
                      have P5 := Lib.hid (P4.out.kept k5)
                      replace Rfb := Lib.hid (row_kept Rfb.out k5)
                      have HI5 := Lib.hid hI
                      have HM := Lib.hid hM
                      have HML := Lib.hid (HLEN.out M hI)
                      have HM32 := Lib.hid hM.1
                      obtain ⟨rad, rc, rfl⟩ : ∃ rad rc, r = .slice rad M.length rc := by
                        obtain ⟨_, ad, _, _, c, h, _⟩ := hM
                        exact ⟨ad, c, h⟩
                      clear hI hM k5 P4 P3 Rgq
                      refine hK _ _ ?_
                      clear hK K
                      refine @BigFrame.wpList_want _ _ _ _ _ _ _ ?hw2099082 ?_
                      case hw2099082 => kernel_rfl
                      intro K hK
                      go_simp
                      refine hK _ _ ?_
                      clear hK K
                      as_aux_lemma =>
                        go_upto_region 19 with fail
                        refine wp_region_lit ?_
                        refine @BigFrame.wpList_want _ _ _ _ _ _ _ ?hw2099085 ?_
                        case hw2099085 => kernel_rfl
                        intro K hK
                        go_simp
                        refine hK _ _ ?_
                        clear hK K
                        refine @wpList_load_known _ _ _ _ _ _ _ ?hw2099086 22 (.tmp 14) rfl (fb) (0) rfl (.agg fc) (HLC22.out _ _ Rfb.out) ?_
                        case hw2099086 => kernel_rfl
                        simp only [Act.put, List.setIfInBounds_toArray, List.set_cons_zero, List.set_cons_succ]
                        refine @BigFrame.wpList_want _ _ _ _ _ _ _ ?hw2099083 ?_
                        case hw2099083 => kernel_rfl
                        intro K hK
                        refine wp_build_one _ 47 22 rfl i0 z0 Tryd.underlying47 HI0.out HZ0.out fc rfl (by rw [HS0.out]; exact HFC32.out) (by rw [HS0.out]; decide) (by rw [HS0.out]; decide) ?_
                        refine hK _ _ ?_
                        clear hK K
                        simp only [Act.put, List.setIfInBounds_toArray, List.set_cons_zero, List.set_cons_succ]
                        have kn : Kept z5.heap.size z5.heap.size z5 (z5.alloc (.cells fc 22)) := (Kept.refl _ _ _).alloc (Nat.le_refl _) _
                        have Rgr := Lib.hid (heap_new z5 (.cells fc 22))
                        have P6 := Lib.hid (P5.out.kept kn)
                        replace HM := Lib.hid (HM.out.kept kn)
                        clear kn
                        generalize z5.alloc (.cells fc 22) = z6 at Rgr P6  HM ⊢
                        generalize z5.heap.size = gr at Rgr ⊢
                        refine @BigFrame.wpList_want _ _ _ _ _ _ _ ?hw2099084 ?_
                        case hw2099084 => kernel_rfl
                        intro K hK
                        go_simp
                        go_at_call 26
                        refine (HRF.out z6 _ P6.out.ls.fs gr Rgr.out).mono ?_
                        rintro e z7 ⟨r2, M2, rfl, o7, hI2, k7⟩
                        obtain rfl : M2 = M := hI2.one HI5.out
                        have P7 := Lib.hid (P6.out.kept k7)
                        have HX := Lib.hid (HM.out.kept k7)
                        have HT := Lib.hid o7.hs
                        obtain ⟨tad, tc, rfl⟩ : ∃ tad tc, r2 = .slice tad M2.length tc := by
                          obtain ⟨_, ad, _, _, c, h, _⟩ := o7.hs
                          exact ⟨ad, c, h⟩
                        clear o7 hI2 k7 P5 P6 HM HI5 Rfb Rgr
                        obtain ⟨h0, xad, xg, xo, xc, hx1, hx2⟩ := HX.out
                        injection hx1 with hx1 _ hx3
                        subst hx1 hx3
                        obtain ⟨_, yad, yg, yo, yc, hy1, hy2⟩ := HT.out
                        injection hy1 with hy1 _ hy3
                        subst hy1 hy3
                        have HX2 := Lib.hid hx2
                        have HY2 := Lib.hid hy2
                        clear hx2 hy2 HX HT h0
                        obtain ⟨ml, hml⟩ : ∃ t, t = M2.length := ⟨_, rfl⟩
                        have HMLE := Lib.hid hml
                        rw [← hml] at HML ⊢
                        clear hml
                        refine hK _ _ ?_
                        clear hK K
                        refine @BigFrame.wpList_want _ _ _ _ _ _ _ ?hw2099087 ?_
                        case hw2099087 => kernel_rfl
                        intro K hK
                        go_simp
                        refine hK _ _ ?_
                        clear hK K
                        as_aux_lemma =>
                          go_upto_region 20 with fail
                          refine wp_region_lit ?_
                          refine @BigFrame.wpList_want _ _ _ _ _ _ _ ?hw2099089 ?_
                          case hw2099089 => kernel_rfl
                          intro K hK
                          go_simp
                          refine hK _ _ ?_
                          clear hK K
                          refine @BigFrame.wpList_want _ _ _ _ _ _ _ ?hw2099088 ?_
                          case hw2099088 => kernel_rfl
                          intro K hK
                          go_simp
                          go_at_call 27
                          refine (HLN.out z7 b2 bb P7.out.bk).mono ?_
                          rintro e z8 ⟨rfl, e8⟩
                          have e9 := e8.symm
                          clear e8
                          subst e9
                          refine hK _ _ ?_
                          clear hK K
                          refine @BigFrame.wpList_want _ _ _ _ _ _ _ ?hw2099090 ?_
                          case hw2099090 => kernel_rfl
                          intro K hK
                          go_simp
                          refine hK _ _ ?_
                          clear hK K
                          refine @BigFrame.wpList_want _ _ _ _ _ _ _ ?hw2099091 ?_
                          case hw2099091 => kernel_rfl
                          intro K hK
                          go_simp
                          refine hK _ _ ?_
                          clear hK K
                          refine @BigFrame.wpList_want _ _ _ _ _ _ _ ?hw2099092 ?_
                          case hw2099092 => kernel_rfl
                          intro K hK
                          go_simp
                          refine hK _ _ ?_
                          clear hK K
                          refine @BigFrame.wpList_want _ _ _ _ _ _ _ ?hw2099093 ?_
                          case hw2099093 => kernel_rfl
                          intro K hK
                          go_simp
                          refine hK _ _ ?_
                          clear hK K
                          refine @BigFrame.wpList_want _ _ _ _ _ _ _ ?hw2099094 ?_
                          case hw2099094 => kernel_rfl
                          intro K hK
                          go_simp
                          refine hK _ _ ?_
                          clear hK K
                          refine @BigFrame.wpList_want _ _ _ _ _ _ _ ?hw2099095 ?_
                          case hw2099095 => kernel_rfl
                          intro K hK
                          go_simp
                          refine hK _ _ ?_
                          clear hK K
                          refine @BigFrame.wpList_want _ _ _ _ _ _ _ ?hw2099096 ?_
                          case hw2099096 => kernel_rfl
                          intro K hK
                          go_simp
                          refine hK _ _ ?_
                          clear hK K
                          refine @BigFrame.wpList_want _ _ _ _ _ _ _ ?hw2099097 ?_
                          case hw2099097 => kernel_rfl
                          intro K hK
                          go_simp
                          refine hK _ _ ?_
                          clear hK K
                          refine @BigFrame.wpList_want _ _ _ _ _ _ _ ?hw2099098 ?_
                          case hw2099098 => kernel_rfl
                          intro K hK
                          go_simp
                          refine hK _ _ ?_
                          clear hK K
                          refine @BigFrame.wpList_want _ _ _ _ _ _ _ ?hw2099099 ?_
                          case hw2099099 => kernel_rfl
                          intro K hK
                          go_simp
                          refine hK _ _ ?_
                          clear hK K
                          go_wp2
                          go_loopw [17] (fun s17 wr => ∃ i : Nat, s17 = .int .i64 (i : Int) ∧ Hid (i ≤ ml) ∧ Hid (Kept z7.heap.size z7.heap.size z7 wr)) (fun s17 _ => ml - (RowKit.intOf s17).toNat)
                          case atStart => exact ⟨0, rfl, Lib.hid (Nat.zero_le _), Lib.hid (Kept.refl _ _ _)⟩
                          case round =>
                            obtain ⟨i, rfl, hi, HK⟩ := hrel
                            have hmx := HML.out
                            by_cases hlt : i < ml
                            · have hlti : (i : Int) < (ml : Int) := by omega
                              have hi0 : ¬ (i : Int) < 0 := by omega
                              have HLT := Lib.hid hlt
                              have hiM : i < M2.length := by rw [← HMLE.out]; exact hlt
                              obtain ⟨rfl, hgx, hrx⟩ := HX2.out i hiM
                              obtain ⟨rfl, hgy, hry⟩ := HY2.out i hiM
                              have h32 := HM32.out _ (List.getElem_mem hiM)
                              have HLX := Lib.hid (fun (x : World) (k : Kept z7.heap.size z7.heap.size z7 x) => run_loadVar_mid x xg (xo + i * 32) 23 _ _ (rangeAt_kept k hrx hgx (Nat.ne_of_lt hgx)) Tryd.underlying23 rfl (by have := keyInfo11 h32; simpa using this))
                              have HLY := Lib.hid (fun (x : World) (k : Kept z7.heap.size z7.heap.size z7 x) => run_loadVar_mid x yg (yo + i * 32) 22 _ _ (rangeAt_kept k hry hgy (Nat.ne_of_lt hgy)) Tryd.underlying22 rfl (by have := keyInfo22 h32; simpa using this))
                              have heq := fun x => mac_equalIn x M2[i] h32
                              obtain ⟨oc, hoc⟩ : ∃ t, t = (bcells M2[i]).toArray := ⟨_, rfl⟩
                              rw [← hoc] at HLX HLY heq
                              have KD := HK.out.drew
                              clear hoc hlt hiM hgx hrx hgy hry h32
                              go_upto_region 25 with fail
                              refine wp_region_noPanic ?_
                              refine wp_region_held_drew (S := fun w' => Kept z7.heap.size z7.heap.size z7 w') (by kernel_rfl) (KD) (fun hH => ?_)
                              refine wpAnyH_take_ex (i := 0) 150 rfl rfl (by kernel_rfl) (by kernel_rfl) (by kernel_rfl) (fun _ _ _ _ h => h) (by kernel_rfl) hH ?_
                              apply Exists.intro
                              apply And.intro
                              · intro w9 _
                                go_simp
                                first | done | rfl
                              simp only [List.setIfInBounds_toArray, List.set_cons_zero, List.set_cons_succ]
                              refine wpAnyH_take_ex (i := 1) 151 rfl rfl (by kernel_rfl) (by kernel_rfl) (by kernel_rfl) (fun _ _ _ _ h => h) (by kernel_rfl) hH ?_
                              apply Exists.intro
                              apply And.intro
                              · intro w9 _
                                go_simp
                                first | done | rfl
                              simp only [List.setIfInBounds_toArray, List.set_cons_zero, List.set_cons_succ]
                              refine wpAnyH_take_ex (i := 2) 152 rfl rfl (by kernel_rfl) (by kernel_rfl) (by kernel_rfl) (fun _ _ _ _ h => h) (by kernel_rfl) hH ?_
                              apply Exists.intro
                              apply And.intro
                              · intro w9 _
                                go_simp
                                first | done | rfl
                              simp only [List.setIfInBounds_toArray, List.set_cons_zero, List.set_cons_succ]
                              refine wpAnyH_take_at (i := 3) 153 (.agg oc) rfl rfl (by kernel_rfl) (by kernel_rfl) (by kernel_rfl) (fun _ _ _ h => h) (yieldsIf_load_known (by kernel_rfl) 23 _ rfl (xg) (xo + i * 32) rfl (.agg oc) (HLX.out)) hH ?_
                              simp only [List.setIfInBounds_toArray, List.set_cons_zero, List.set_cons_succ]
                              refine wpAnyH_take_ex (i := 4) 154 rfl rfl (by kernel_rfl) (by kernel_rfl) (by kernel_rfl) (fun _ _ _ _ h => h) (by kernel_rfl) hH ?_
                              apply Exists.intro
                              apply And.intro
                              · intro w9 _
                                go_simp
                                first | done | rfl
                              simp only [List.setIfInBounds_toArray, List.set_cons_zero, List.set_cons_succ]
                              refine wpAnyH_take_ex (i := 5) 155 rfl rfl (by kernel_rfl) (by kernel_rfl) (by kernel_rfl) (fun _ _ _ _ h => h) (by kernel_rfl) hH ?_
                              apply Exists.intro
                              apply And.intro
                              · intro w9 _
                                go_simp
                                first | done | rfl
                              simp only [List.setIfInBounds_toArray, List.set_cons_zero, List.set_cons_succ]
                              refine wpAnyH_take_ex (i := 6) 156 rfl rfl (by kernel_rfl) (by kernel_rfl) (by kernel_rfl) (fun _ _ _ _ h => h) (by kernel_rfl) hH ?_
                              apply Exists.intro
                              apply And.intro
                              · intro w9 _
                                go_simp
                                first | done | rfl
                              simp only [List.setIfInBounds_toArray, List.set_cons_zero, List.set_cons_succ]
                              refine wpAnyH_take_at (i := 7) 157 (.agg oc) rfl rfl (by kernel_rfl) (by kernel_rfl) (by kernel_rfl) (fun _ _ _ h => h) (yieldsIf_load_known (by kernel_rfl) 22 _ rfl (yg) (yo + i * 32) rfl (.agg oc) (HLY.out)) hH ?_
                              simp only [List.setIfInBounds_toArray, List.set_cons_zero, List.set_cons_succ]
                              refine wpAnyH_take_ex (i := 8) 158 rfl rfl (by kernel_rfl) (by kernel_rfl) (by kernel_rfl) (fun _ _ _ _ h => h) (by kernel_rfl) hH ?_
                              apply Exists.intro
                              apply And.intro
                              · intro w9 _
                                go_simp
                                first | done | rfl
                              simp only [List.setIfInBounds_toArray, List.set_cons_zero, List.set_cons_succ]
                              refine wpAnyH_done (by kernel_rfl) ?_ _
                              refine NoPanic.normal ?_
                              go_wp2
                              go_roundw
                              case rel => exact ⟨i + 1, by go_num, Lib.hid HLT.out, Lib.hid HK.out.drew⟩
                              case measure => have := HLT.out; simp [RowKit.intOf]; omega
                            · have hnl : ¬ (i : Int) < (ml : Int) := by omega
                              go_wp2
                              go_ret
                              exact ⟨rfl, P7.out.kp.onto HK.out⟩
  · have hl : decide ((cc.size : Int) > 5000) = true := decide_eq_true (by omega)
    generalize (bcells j).toArray = jc at HLJ ⊢
    clear hj tab hz lb ub
    go_enter Tryd.func5, Tryd.ntmps5
    go_upto_region 0 with fail
    refine wp_region_lit ?_
    refine @BigFrame.wpList_want _ _ _ _ _ _ _ ?hw99001 ?_
    case hw99001 => kernel_rfl
    intro K hK
    go_simp
    refine hK _ _ ?_
    clear hK K
    have kn : Kept w.heap.size w.heap.size w (w.alloc (.cells jc 23)) := (Kept.refl _ _ _).alloc (Nat.le_refl _) _
    have rjb := heap_new w (.cells jc 23)
    have Kw1 := kn
    generalize w.alloc (.cells jc 23) = w1 at kn rjb Kw1  ⊢
    obtain ⟨jb, hjb⟩ : ∃ n, n = w.heap.size := ⟨_, rfl⟩
    rw [← hjb] at rjb
    (try rw [← hjb])
    clear hjb kn
    refine @BigFrame.wpList_want _ _ _ _ _ _ _ ?hw99002 ?_
    case hw99002 => kernel_rfl
    intro K hK
    go_simp
    refine hK _ _ ?_
    clear hK K
    have Rjb := Lib.hid rjb
    clear rjb
    have KW := Lib.hid Kw1
    clear Kw1
    go_upto_region 1 with fail
    refine wp_region_lit ?_
    refine @BigFrame.wpList_want _ _ _ _ _ _ _ ?hw99003 ?_
    case hw99003 => kernel_rfl
    intro K hK
    go_simp
    go_at_call 9
    refine (HAW.out _ KW.out).mono ?_
    rintro e x1 ⟨rfl, X1⟩
    refine hK _ _ ?_
    clear hK K
    refine @BigFrame.wpList_want _ _ _ _ _ _ _ ?hw99004 ?_
    case hw99004 => kernel_rfl
    intro K hK
    go_simp
    refine hK _ _ ?_
    clear hK K
    refine @BigFrame.wpList_want _ _ _ _ _ _ _ ?hw99005 ?_
    case hw99005 => kernel_rfl
    intro K hK
    go_simp
    refine hK _ _ ?_
    clear hK K
    refine @BigFrame.wpList_want _ _ _ _ _ _ _ ?hw99006 ?_
    case hw99006 => kernel_rfl
    intro K hK
    go_simp
    refine hK _ _ ?_
    clear hK K
    refine @BigFrame.wpList_want _ _ _ _ _ _ _ ?hw99007 ?_
    case hw99007 => kernel_rfl
    intro K hK
    go_simp
    refine hK _ _ ?_
    clear hK K
    refine @BigFrame.wpList_want _ _ _ _ _ _ _ ?hw99008 ?_
    case hw99008 => kernel_rfl
    intro K hK
    go_simp
    refine hK _ _ ?_
    clear hK K
    refine @BigFrame.wpList_want _ _ _ _ _ _ _ ?hw99009 ?_
    case hw99009 => kernel_rfl
    intro K hK
    go_simp
    refine hK _ _ ?_
    clear hK K
    go_upto_region 2 with fail
    refine wp_region_lit ?_
    refine @BigFrame.wpList_want _ _ _ _ _ _ _ ?hw99010 ?_
    case hw99010 => kernel_rfl
    intro K hK
    go_simp
    go_at_call 9
    refine (HAW.out _ (KW.out.onto X1)).mono ?_
    rintro e x2 ⟨rfl, k2⟩
    have X2 := X1.onto k2
    refine hK _ _ ?_
    clear hK K
    refine @BigFrame.wpList_want _ _ _ _ _ _ _ ?hw99011 ?_
    case hw99011 => kernel_rfl
    intro K hK
    go_simp
    refine hK _ _ ?_
    clear hK K
    go_wp2
    go_ret
    exact ⟨rfl, KW.out.onto X2⟩

end Go.Proofs.YtdfbmijbmlainaaDoor
