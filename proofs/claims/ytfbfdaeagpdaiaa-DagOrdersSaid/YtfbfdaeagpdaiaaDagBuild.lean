/-
 Vertices built of their parts.
-/
import Derived.Test.YtfbfdaeagpdaiaaDagInsert
set_option maxRecDepth 100000
set_option maxHeartbeats 6400000
namespace Go.Proofs.Ytfbfdaeagpdaiaa
open Go.RowKit Go.Lib
open List renaming setIfInBounds_toArray → sA, set_cons_zero → sB, set_cons_succ → sC
open BigFrame renaming wpList_want → wQ
theorem list32_15' {p:List UInt8→Prop}(h:∀ b0 b1 b2 b3 b4 b5 b6 b7 b8 b9 b10 b11 b12 b13 b14 b15 b16 b17 b18 b19 b20 b21 b22 b23 b24 b25 b26 b27 b28 b29 b30 b31:UInt8,p [b0,b1,b2,b3,b4,b5,b6,b7,b8,b9,b10,b11,b12,b13,b14,b15,b16,b17,b18,b19,b20,b21,b22,b23,b24,b25,b26,b27,b28,b29,b30,b31]):∀ (l:List UInt8),l.length = 32→p l:=fun l hl=>by
 match l,hl with
 | [b0,b1,b2,b3,b4,b5,b6,b7,b8,b9,b10,b11,b12,b13,b14,b15,b16,b17,b18,b19,b20,b21,b22,b23,b24,b25,b26,b27,b28,b29,b30,b31],_=>exact h b0 b1 b2 b3 b4 b5 b6 b7 b8 b9 b10 b11 b12 b13 b14 b15 b16 b17 b18 b19 b20 b21 b22 b23 b24 b25 b26 b27 b28 b29 b30 b31
theorem build_vx3 (l m:List UInt8)(hl:l.length = 32)(hm:m.length = 32)(d:Int)(w:World):(Instr.build 36 #[(0,.agg (bcells l).toArray),(1,.agg (bcells m).toArray),(2,.int .i64 d)]).run Try.prog w = .ok (Vx.val ⟨l,m,d,0⟩) w:=by
 revert hm
 revert m
 refine list32_15' ?_;intro b0 b1 b2 b3 b4 b5 b6 b7 b8 b9 b10 b11 b12 b13 b14 b15 b16 b17 b18 b19 b20 b21 b22 b23 b24 b25 b26 b27 b28 b29 b30 b31
 revert hl
 revert l
 refine list32_15' ?_;intro c0 c1 c2 c3 c4 c5 c6 c7 c8 c9 c10 c11 c12 c13 c14 c15 c16 c17 c18 c19 c20 c21 c22 c23 c24 c25 c26 c27 c28 c29 c30 c31;kernel_rfl
theorem build_vx4 (l m:List UInt8)(hl:l.length = 32)(hm:m.length = 32)(d t:Int)(w:World):(Instr.build 36 #[(0,.agg (bcells l).toArray),(1,.agg (bcells m).toArray),(2,.int .i64 d),(3,.int .i64 t)]).run Try.prog w = .ok (Vx.val ⟨l,m,d,t⟩) w:=by
 revert hm
 revert m
 refine list32_15' ?_;intro b0 b1 b2 b3 b4 b5 b6 b7 b8 b9 b10 b11 b12 b13 b14 b15 b16 b17 b18 b19 b20 b21 b22 b23 b24 b25 b26 b27 b28 b29 b30 b31
 revert hl
 revert l
 refine list32_15' ?_;intro c0 c1 c2 c3 c4 c5 c6 c7 c8 c9 c10 c11 c12 c13 c14 c15 c16 c17 c18 c19 c20 c21 c22 c23 c24 c25 c26 c27 c28 c29 c30 c31;kernel_rfl
theorem build_id15 (b:UInt8)(w:World):(Instr.build 30 #[(0,.int .u8 b.toNat)]).run Try.prog w = .ok (.agg (bcells (b :: List.replicate 31 0)).toArray) w:=by kernel_rfl
theorem insert_ok15 {sb n:Nat}{F:Nat→Prop}{keep:Int}{L:List Vx}{h:Option Vx}{P:List (List UInt8)}(w:World)(ds:Dst w sb F keep n L h P)(hst:Dg.St keep L h)(v:Vx)(hv:v.Ok)(hm:n + 1≤100000)(hE:Enough keep L h P v):
  Calls Try.prog 7 #[.pointer (some ⟨sb,0,none⟩),v.val] w fun e w'=>∃ (F':Nat→Prop) (ad:Option Addr) (c:Nat),e = .returned (.tuple #[.slice ad (Dg.gone keep L h v).length c,.int .i64 0])∧(∀ k,F' k→F k∨w.heap.size≤k)∧Dfr F w w'∧Dst w' sb F' keep (n + 1) (Dg.after keep L h v) (some (Dg.newTop h v)) (v.par :: P):=
 (insert15 w ds hst v hv hm).mono fun e w' ⟨F',h1,h2,h3⟩=>by
  rcases h3 with ⟨er,_,_,hn,_⟩ | ⟨ad,ln,c,rfl,rfl,_,hd⟩
  ·exact absurd hE hn
  ·exact⟨F',ad,c,rfl,h1,h2,hd⟩
end Go.Proofs.Ytfbfdaeagpdaiaa
