/-
 ShaCmp; ShaCmpF: several texts in one.
-/
import Derived.Test.YtfbfdaeagpdaiaaProg
import Derived.Test.YtfbfdaeagpdaiaaGA
import Derived.Lib.Hide
import Derived.Deep.MidRow
import Derived.Deep.Cut
import Derived.Lib.Bytealg
import Derived.Lib.Walk
import Derived.Deep.QuietTactic
import Derived.BigQuiet
import Derived.Laws.IdiomStrings
set_option maxRecDepth 100000
namespace Go.Proofs.Ytfbfdaeagpdaiaa
open Go.RowKit Go.Lib
open List renaming setIfInBounds_toArray → sA, set_cons_zero → sB, set_cons_succ → sC
open BigFrame renaming wpList_want → wQ
theorem cb_anti:∀ a b:List UInt8,compareBytes a b = - compareBytes b a
 | [],[]=>rfl
 | [],_ :: _=>rfl
 | _ :: _,[]=>rfl
 | x :: a,y :: b=>by
  unfold compareBytes
  by_cases h1:x < y
  ·have h2:¬ y < x:=fun h=>UInt8.lt_irrefl _ (UInt8.lt_trans h1 h)
   rw [if_pos h1,if_neg h2,if_pos h1]
  ·by_cases h2:y < x
   ·rw [if_neg h1,if_pos h2,if_pos h2]
    rfl
   ·rw [if_neg h1,if_neg h2,if_neg h2,if_neg h1]
    exact cb_anti a b
theorem cb_zero:∀ a b:List UInt8,compareBytes a b = 0↔a = b
 | [],[]=>by simp [compareBytes]
 | [],_ :: _=>by simp [compareBytes]
 | _ :: _,[]=>by simp [compareBytes]
 | x :: a,y :: b=>by
  unfold compareBytes
  by_cases h1:x < y
  ·rw [if_pos h1]
   constructor
   ·intro h; cases h
   ·intro h; cases h; exact absurd h1 (UInt8.lt_irrefl _)
  ·by_cases h2:y < x
   ·rw [if_neg h1,if_pos h2]
    constructor
    ·intro h; cases h
    ·intro h; cases h; exact absurd h2 (UInt8.lt_irrefl _)
   ·rw [if_neg h1,if_neg h2,cb_zero a b]
    have e:x = y:=UInt8.le_antisymm (UInt8.not_lt.1 h2) (UInt8.not_lt.1 h1);subst e;simp
theorem cb_trans:∀ a b c:List UInt8,compareBytes a b≤0→compareBytes b c≤0→compareBytes a c≤0
 | [],_,[],_,_=>by simp [compareBytes]
 | [],_,_ :: _,_,_=>by simp [compareBytes]
 | _ :: _,[],_,h,_=>by simp [compareBytes] at h
 | _ :: _,_ :: _,[],_,h=>by simp [compareBytes] at h
 | x :: a,y :: b,z :: c,h1,h2=>by
  unfold compareBytes at h1 h2 ⊢
  by_cases xy:x < y
  ·by_cases yz:y < z
   ·rw [if_pos (UInt8.lt_trans xy yz)]; decide
   ·by_cases zy:z < y
    ·rw [if_neg yz,if_pos zy] at h2
     exact absurd h2 (by decide)
    ·have e:y = z:=UInt8.le_antisymm (UInt8.not_lt.1 zy) (UInt8.not_lt.1 yz)
     subst e;rw [if_pos xy]; decide
  ·by_cases yx:y < x
   ·rw [if_neg xy,if_pos yx] at h1
    exact absurd h1 (by decide)
   ·have e:x = y:=UInt8.le_antisymm (UInt8.not_lt.1 yx) (UInt8.not_lt.1 xy)
    subst e;rw [if_neg xy,if_neg xy] at h1
    by_cases yz:x < z
    ·rw [if_pos yz]; decide
    ·by_cases zy:z < x
     ·rw [if_neg yz,if_pos zy] at h2
      exact absurd h2 (by decide)
     ·rw [if_neg yz,if_neg zy] at h2 ⊢
      exact cb_trans a b c h1 h2
theorem run_loadBytes {P:Program}(w:World):∀ (l:List UInt8) (a:Addr) (acc:ByteArray),(∀ j (hj:j < l.length),w.cell? (a.add j) = some (.int .u8 (l[j]).toNat))→(Extern.Bytes.loadBytes a l.length acc).run P w = .ok ⟨acc.data ++ l.toArray⟩ w
 | [],_,acc,_=>by simp [Extern.Bytes.loadBytes]
 | c :: l,a,acc,h=>by
  have h0:w.cell? a = some (.int .u8 c.toNat):=by
   have:=h 0 (by simp)
   rw [show a.add 0 = a by unfold Addr.add; split <;> simp_all] at this
   simpa using this
  have ih:=run_loadBytes (P:=P) w l (a.add 1) (acc.push c) (fun j hj=>by
   have:=h (j + 1) (by simpa using hj)
   rw [show(a.add 1).add j = a.add (j + 1) by unfold Addr.add; split <;> simp_all <;> omega]
   simpa using this)
  have hc:(c.toNat:Int).toNat.toUInt8 = c:=by simp
  simp only [List.length_cons,Extern.Bytes.loadBytes,Sem.run_bind,run_load,h0,Result.andThen_ok];rw [hc,ih];simp [ByteArray.push]
theorem run_compare_slices {P:Program}(w:World)(l m:List UInt8)(a b:Addr)(c d:Nat)(ha:∀ j (hj:j < l.length),w.cell? (a.add j) = some (.int .u8 (l[j]).toNat))(hb:∀ j (hj:j < m.length),w.cell? (b.add j) = some (.int .u8 (m[j]).toNat)):
  (Extern.BytealgCompare.compare #[.slice (some a) l.length c,.slice (some b) m.length d]).run P w = .ok (.int .i64 (compareBytes l m)) w:=by
 change Sem.run P (do pure (goInt (Extern.BytealgCompare.cmp (← Extern.Bytes.bytesOf (.slice (some a) l.length c)) (← Extern.Bytes.bytesOf (.slice (some b) m.length d))))) w = _
 simp only [Extern.Bytes.bytesOf,Sem.run_bind,Sem.run_pure,run_loadBytes w l a _ ha,run_loadBytes w m b _ hb,Result.andThen_ok];rw [cmp_eq];have e0:ByteArray.empty.data = #[]:=rfl;rw [e0];simp [goInt]
theorem comparebytes_calls (l m:List UInt8)(g h:Nat)(c d:Nat)(w:World)(ha:∀ j (hj:j < l.length),w.cell? ⟨g,j,none⟩ = some (.int .u8 (l[j]).toNat))(hb:∀ j (hj:j < m.length),w.cell? ⟨h,j,none⟩ = some (.int .u8 (m[j]).toNat)):
  Calls Try.prog 32 #[.slice (some ⟨g,0,none⟩) l.length c,.slice (some ⟨h,0,none⟩) m.length d] w fun e w'=>e = .returned (.int .i64 (compareBytes l m))∧w' = w:=by
 have hr:=run_compare_slices (P:=Try.prog) w l m ⟨g,0,none⟩ ⟨h,0,none⟩ c d (fun j hj=>by rw [Addr.add_lit,Nat.zero_add]; exact ha j hj) (fun j hj=>by rw [Addr.add_lit,Nat.zero_add]; exact hb j hj)
 have Hr:=hid hr;clear hr ha hb
 go_enter Try.func32,Try.ntmps32
 go_wp2;rw [run_callFunc_extern Try.func43 (by kernel_rfl) (by kernel_rfl) (by kernel_rfl) (e:=Extern.BytealgCompare.compare) (by kernel_rfl),Hr.out]
 simp only [Result.andThen];rw [Oper.upon_value];go_wp2;go_ret;exact⟨rfl,rfl⟩
theorem slice_hash (w:World)(b:Nat):(Instr.sliceAt 30 (.pointer (some ⟨b,0,none⟩)) none none none).run Try.prog w = .ok (.slice (some ⟨b,0,none⟩) 32 32) w:=by
 have hA:Try.prog.arrayLen 30 = 32:=by kernel_rfl
 have hE:Try.prog.elem 30 = 5:=by kernel_rfl
 have hu:Try.prog.underlying 30 = some (.array (Try.prog.arrayLen 30) (Try.prog.elem 30)):=by kernel_rfl
 rw [run_sliceAt_array_all w 30 _ hu,hE,Try.sizeOf5,hA]
 simp only [Result.andThen_ok,slicedAt];rw [if_neg (by decide),Addr.add_lit]
theorem cmp_calls (l m:List UInt8)(hl:l.length = 32)(hm:m.length = 32)(w:World):Calls Try.prog 27 #[.agg (bcells l).toArray,.agg (bcells m).toArray] w fun e w'=>e = .returned (.int .i64 (compareBytes l m))∧Kept w.heap.size w.heap.size w w':=by
 generalize hq1:(bcells l).toArray = cs;generalize hq2:(bcells m).toArray = ds;have HQ1:=hid hq1.symm;have HQ2:=hid hq2.symm;clear hq1 hq2
 go_enter Try.func27,Try.ntmps27
 go_wp2_with fail
 have hA:((w.alloc (.cells cs 30)).alloc (.cells ds 30)).heap[w.heap.size]? = some (.cells cs 30 (0,0)):=heap_alloc2_old w _ _
 have hB:((w.alloc (.cells cs 30)).alloc (.cells ds 30)).heap[w.heap.size + 1]? = some (.cells ds 30 (0,0)):=heap_alloc2_last w _ _
 have hK:Kept w.heap.size w.heap.size w ((w.alloc (.cells cs 30)).alloc (.cells ds 30)):=((Kept.refl _ _ _).alloc (Nat.le_refl _) _).alloc (by simp) _
 generalize (w.alloc (.cells cs 30)).alloc (.cells ds 30) = w2 at hA hB hK ⊢
 rw [HQ1.out] at hA;rw [HQ2.out] at hB
 have hcall:∀ n,Calls Try.prog 32 #[.slice (some ⟨w.heap.size,0,none⟩) 32 32,.slice (some ⟨w.heap.size + 1,0,none⟩) 32 32] (w2.drewN n) fun e w'=>e = .returned (.int .i64 (compareBytes l m))∧w' = w2.drewN n:=fun n=>by
  have:=comparebytes_calls l m w.heap.size (w.heap.size + 1) 32 32 (w2.drewN n) (fun j hj=>cells_get hA (bcells_get l j hj)) (fun j hj=>cells_get hB (bcells_get m j hj))
  rw [hl,hm] at this;exact this
 have Hcall:=hid hcall;have HK:=hid hK;have s1:=fun w=>slice_hash w
 clear hcall hK hA hB
 go_quiet ((go_at_call 32; exact Calls.quiet_of_same (Hcall.out _)))
 go_wp2;go_ret;exact⟨rfl,HK.out.drewN _⟩
end Go.Proofs.Ytfbfdaeagpdaiaa
