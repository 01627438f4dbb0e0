/-
 The landed order of vertices; which one leads.
-/
import Derived.Test.YtfbfdaeagpdaiaaDagMem
set_option maxRecDepth 100000
namespace Go.Proofs.Ytfbfdaeagpdaiaa
open Go.RowKit Go.Lib
open List renaming setIfInBounds_toArray → sA, set_cons_zero → sB, set_cons_succ → sC
open BigFrame renaming wpList_want → wQ
theorem isnan15 (x:Int)(w:World):Calls Try.prog 31 #[.int .i64 x] w fun e w'=>e = .returned (.bool false)∧w' = w:=by
 go_enter Try.func31,Try.ntmps31
 go_wp2;go_ret;simp
def cmpI (a b:Int):Int:=if a < b then -1 else if a > b then 1 else 0
theorem compare15 (a b:Int)(w:World):Calls Try.prog 26 #[.int .i64 a,.int .i64 b] w fun e w'=>e = .returned (.int .i64 (cmpI a b))∧w' = w:=by
 have H:=hid isnan15
 go_enter Try.func26,Try.ntmps26
 by_cases h1:a < b
 ·have HC:=hid (show cmpI a b = -1 by simp [cmpI,h1])
  go_wp2_with (go_at_call 31; refine(H.out _ _).mono ?_; rintro e w2 ⟨rfl,h2⟩; subst w2)
  go_ret;rw [HC.out];exact⟨rfl,rfl⟩
 ·by_cases h2:a > b
  ·have HC:=hid (show cmpI a b = 1 by simp [cmpI,h1,h2])
   go_wp2_with (go_at_call 31; refine(H.out _ _).mono ?_; rintro e w2 ⟨rfl,h2⟩; subst w2)
   go_ret;rw [HC.out];exact⟨rfl,rfl⟩
  ·have HC:=hid (show cmpI a b = 0 by simp [cmpI,h1,h2])
   go_wp2_with (go_at_call 31; refine(H.out _ _).mono ?_; rintro e w2 ⟨rfl,h2⟩; subst w2)
   go_ret;rw [HC.out];exact⟨rfl,rfl⟩
def orI (a b:Int):Int:=if a = 0 then b else a
theorem or15 (a b:Int)(g c:Nat)(w:World)(hg:w.heap[g]? = some (.cells #[.int .i64 a,.int .i64 b] 3 (0,0))):Calls Try.prog 25 #[.slice (some ⟨g,0,none⟩) 2 c] w fun e w'=>e = .returned (.int .i64 (orI a b))∧w' = w:=by
 have c0:=two_cell0 hg;have c1:=two_cell1 hg;clear hg
 go_enter Try.func25,Try.ntmps25
 by_cases h1:a = 0
 ·subst h1
  have HC:=hid (show orI 0 b = b by simp [orI])
  rw [HC.out]
  by_cases h2:b = 0
  ·subst h2
   go_wp2;refine wp_loop_rounds 4 ?_;rw [rounds_succ];go_wp2;rw [rounds_succ];go_wp2;rw [rounds_succ];go_wp2;go_ret;exact⟨rfl,rfl⟩
  ·go_wp2
   refine wp_loop_rounds 4 ?_;rw [rounds_succ];go_wp2;rw [rounds_succ];go_wp2;go_ret;exact⟨rfl,rfl⟩
 ·have HC:=hid (show orI a b = a by simp [orI,h1])
  rw [HC.out];go_wp2;refine wp_loop_rounds 4 ?_;rw [rounds_succ];go_wp2;go_ret;exact⟨rfl,rfl⟩
end Go.Proofs.Ytfbfdaeagpdaiaa
