/-
 The sort at no element, of a nil slice too.
-/
import Derived.Test.YtfbfdaeagpdaiaaDagRow
import Derived.Test.YtfbfdaeagpdaiaaShelf
set_option maxRecDepth 100000
set_option maxHeartbeats 2000000
namespace Go.Proofs.Ytfbfdaeagpdaiaa
open Go.RowKit Go.Lib
open List renaming setIfInBounds_toArray → sA, set_cons_zero → sB, set_cons_succ → sC
open BigFrame renaming wpList_want → wQ
theorem insertion_none (p:Option Addr)(c:Nat)(fv:Value)(w:World):Calls Try.prog 33 #[.slice p 0 c,.int .i64 0,.int .i64 0,fv] w fun e w'=>e = .returned (.tuple #[])∧w' = w:=by
 go_enter Try.func33,Try.ntmps33
 go_wp2;refine wp_loop_rounds 1 ?_;rw [rounds_succ];go_wp2
 go_end0
 exact⟨rfl,rfl⟩
theorem pdq_none (p:Option Addr)(c:Nat)(lim:Int)(fv:Value)(w:World):Calls Try.prog 29 #[.slice p 0 c,.int .i64 0,.int .i64 0,.int .i64 lim,fv] w fun e w'=>e = .returned (.tuple #[])∧w' = w:=by
 have H:=hid insertion_none
 go_enter Try.func29,Try.ntmps29
 go_wp2;refine wp_loop_rounds 1 ?_;rw [rounds_succ]
 go_wp2_with (go_at_call 33; refine(H.out _ _ _ _).mono ?_; rintro e w' ⟨rfl,rfl⟩)
 (try simp only [Exit.inBlock,Exit.then])
 refine bodyPost_ret (results_none rfl _ _ _) rfl ?_;exact⟨rfl,rfl⟩
theorem sort_none15 (p:Option Addr)(c:Nat)(fv:Value)(w:World):Calls Try.prog 23 #[.slice p 0 c,fv] w fun e w'=>e = .returned (.tuple #[])∧w' = w:=by
 have H:=hid pdq_none;have HL:=hid (fun x=>Try.bits_Len 0 x (by omega) (by omega))
 go_enter Try.func23,Try.ntmps23
 go_wp2_with (first
  | (go_at_call 30; refine(HL.out _).mono ?_; rintro e w' ⟨rfl,rfl⟩)
  | (go_at_call 29; refine(H.out _ _ _ _ _).mono ?_; rintro e w' ⟨rfl,rfl⟩))
 go_end0
 exact⟨rfl,rfl⟩
end Go.Proofs.Ytfbfdaeagpdaiaa
