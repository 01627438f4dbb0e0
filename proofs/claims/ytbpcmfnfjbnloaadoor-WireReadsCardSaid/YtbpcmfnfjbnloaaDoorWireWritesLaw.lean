/-
  The walk of the statement WireWrites: whatever is put, one behind the other, is the document's bytes.
-/
import Derived.Test.YtbpcmfnfjbnloaaDoorWireFew
namespace Go.Proofs.YtbpcmfnfjbnloaaDoor
open Go.RowKit


/-- What is known of the writer, of what the document says its bytes are, and whether all could be put. -/
def Wrote (g : Bool) (L : List UInt8) (st : Option (List UInt8)) : Prop := (g = true → st = some L) ∧ (g = false → st = none)
theorem Wrote.step {g : Bool} {L : List UInt8} {st : Option (List UInt8)} (h : Wrote g L st) (t : Th) : Wrote (g && t.bytes.isSome) (L ++ t.bytes.getD []) (pTh st t) := by
  unfold pTh
  cases hb : t.bytes with
  | none => exact ⟨fun e => by simp at e, fun _ => rfl⟩
  | some x =>
    refine ⟨fun e => ?_, fun e => ?_⟩
    · simp at e
      rw [h.1 e]
      rfl
    · simp at e
      rw [h.2 e]
      rfl

theorem things_at {w : World} {v : Value} {len : Nat} {T : Nat → Th} (h : Things w v len T) (hpos : 0 < len) : ∃ g o cap, v = .slice (some ⟨g, o, none⟩) len cap ∧ (∀ i, i < len → (T i).Ok) ∧ len ≤ 9223372036854775807 ∧ ∀ i, i < len → w.rangeAt g (o + i * 36) (T i).cells := by
  obtain ⟨ao, cap, rfl, hex⟩ := h.ex
  obtain ⟨g, o, rfl, _, hr⟩ := hex hpos
  exact ⟨g, o, cap, rfl, h.ok, h.lenLe, hr⟩

theorem writes_walk (v : Value) (len : Nat) (T : Nat → Th) (w : World) (ht : Tab w) (h : Things w v len T) :
    Calls Tryd.prog 3 #[v] w fun e w' => e = .returned (.bool true) ∧ Kept w.heap.size w.heap.size w w' := by
  have hpos := ht.lt
  obtain ⟨ao, cap, rfl, _⟩ := h.ex
  go_enter Tryd.func3, Tryd.ntmps3
  go_wp2_with fail
  refine (awake_calls _ ht).mono ?_
  rintro e w1 ⟨rfl, k1⟩
  go_wp2_with fail
  refine (few_any _ len T _ (h.same k1)).mono ?_
  rintro e w2 ⟨bb, rfl, hlen, rfl⟩
  have hs1 := k1.size
  cases bb with
  | false =>
    go_wp2_with fail
    refine (awake_calls _ (ht.kept k1 hpos hpos)).mono ?_
    rintro e w2 ⟨rfl, k2⟩
    go_wp2
    go_ret
    exact ⟨rfl, k1.out k2 hs1 hs1⟩
  | true =>
    have hlen3 := hlen rfl
    clear hlen
    go_wp2_with fail
    refine (new_calls _).mono ?_
    rintro e w3 ⟨rfl, h3, k3, s3⟩
    have kk := k1.out k3 hs1 hs1
    have hs3 := kk.size
    go_wp2_with fail
    go_loopw [4, 5, 6] (fun want good i wr => ∃ (k : Nat) (g : Bool) (L : List UInt8) (st : Option (List UInt8)), k ≤ len ∧ i = .int .i64 k ∧ want = .string (str L) ∧ good = .bool g ∧ L.length ≤ 65544 * k ∧ Hid (Short st (65544 * k)) ∧ Wrote g L st ∧ WrV wr (w1.heap.size + 1) w1.heap.size (.pointer (some ⟨w1.heap.size, 0, none⟩)) st ∧ Kept w.heap.size w.heap.size w wr ∧ w1.heap.size + 1 ≤ wr.heap.size) (fun _ _ i _ => len - (intOf i).toNat)
    case atStart => exact ⟨0, true, [], some [], by omega, rfl, rfl, rfl, by simp, Lib.hid (fun l hl => by cases hl; simp), ⟨fun _ => rfl, fun e => by cases e⟩, .inr ⟨rfl, h3⟩, kk, by omega⟩
    case round =>
      obtain ⟨k, g, L, st, hk, rfl, rfl, rfl, hL, HS, hwr, hw, kr, hsr⟩ := hrel
      by_cases hlt : k < len
      · obtain ⟨gb, o, cap2, hv, hok, hlm, hr⟩ := things_at (h.same kr) (by omega)
        cases hv
        have ok := hok k hlt
        have hrk := Lib.hid (hr k hlt)
        have hcl := Lib.hid ((T k).cells_length ok)
        have Hst := Lib.hid (hwr.step (T k))
        have hbl : ((T k).bytes.getD []).length ≤ 65544 := by
          cases hb : (T k).bytes with
          | none => simp
          | some x => simpa using (T k).bytes_le ok x hb
        have HS2 : Hid (Short (pTh st (T k)) (65544 * (k + 1))) := Lib.hid (by have := short_th st (T k) ok _ HS.out; rwa [show 65544 * (k + 1) = 65544 * k + 65544 by omega])
        have hput := Lib.hid (put_any (w1.heap.size + 1) w1.heap.size _ st (T k) ok wr hw (by omega) (ht.kept kr hpos hpos) (fun l hl => by have := HS.out l hl; omega))
        clear hr hok hwr hw
        generalize ht' : T k = t at *
        have Ht := Lib.hid ht'
        clear ht' HS
        go_wp2_with (with_reducible refine wpList_load_mid rfl 32 _ rfl gb (o + k * 36) rfl t.cells _ hrk.out Tryd.underlying32 rfl (by rw [wireInfo32, hcl.out]) ?_)
        refine hput.out.mono ?_
        rintro e w4 ⟨rfl, h4, k4⟩
        have hs4 := k4.size
        have kr4 := kr.out k4 (by omega) hs1
        have hap := str_append L (t.bytes.getD [])
        have Hap := Lib.hid hap
        clear hap
        generalize t.bytes.getD [] = x at *
        generalize t.bytes.isSome = y at *
        cases g with
        | true =>
          go_wp2
          go_roundw
          case rel => exact ⟨k + 1, y, L ++ x, pTh st t, by omega, by go_num, by rw [← Hap.out], rfl, by simp; omega, HS2, by simpa using Hst.out, h4, kr4, by omega⟩
          case measure => simp [intOf]; omega
        | false =>
          go_wp2
          go_roundw
          case rel => exact ⟨k + 1, false, L ++ x, pTh st t, by omega, by go_num, by rw [← Hap.out], rfl, by simp; omega, HS2, by simpa using Hst.out, h4, kr4, by omega⟩
          case measure => simp [intOf]; omega
      · obtain rfl : k = len := by omega
        have hw2 : Wr wr (w1.heap.size + 1) w1.heap.size st := by
          rcases hw with ⟨h, _⟩ | ⟨_, h⟩
          · cases h
          · exact h
        cases g with
        | true =>
          rw [hwr.1 rfl] at hw2
          clear hwr HS hw
          go_wp2_with fail
          refine (wend_ok _ _ _ _ hw2).mono ?_
          rintro e w4 ⟨rfl, rfl⟩
          go_wp2
          go_ret
          exact ⟨rfl, kr⟩
        | false =>
          rw [hwr.2 rfl] at hw2
          clear hwr HS hw
          go_wp2_with fail
          refine (wend_bad _ _ _ hw2).mono ?_
          rintro e w4 ⟨rfl, rfl⟩
          go_wp2
          go_ret
          exact ⟨rfl, kr⟩

end Go.Proofs.YtbpcmfnfjbnloaaDoor
