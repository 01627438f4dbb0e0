/-
 TreeIn; TreeNamesMem: several texts in one.
-/
import Derived.Test.YtaobiofngnfdiaaGreatDoorHO
import Derived.Test.YtaobiofngnfdiaaGreatDoorHQ
import Derived.Test.YtaobiofngnfdiaaGreatDoorTreeSame
import Derived.Test.YtaobiofngnfdiaaGreatDoorHM
set_option maxRecDepth 100000
namespace Go.Proofs.YtaobiofngnfdiaaGreatDoor
open Go.RowKit Go.Lib
open List renaming setIfInBounds_toArray → sA, set_cons_zero → sB, set_cons_succ → sC
open BigFrame renaming wpList_want → wQ
namespace Tt
theorem met_congr {M M':List Int}(h:∀ k:Nat,1≤k→k < 65→((k:Int)∈M↔(k:Int)∈M'))(h0:(0:Int)∉M)(h0':(0:Int)∉M'):met M = met M':=by
 unfold met;refine List.map_congr_left fun k hk=>?_
 have hk2:=List.mem_range.1 hk
 congr 1
 rw [Bool.eq_iff_iff,List.contains_iff_mem,List.contains_iff_mem]
 rcases Nat.eq_zero_or_pos k with e | e
 ·subst e
  exact⟨fun a=>absurd a h0,fun a=>absurd a h0'⟩
 ·exact h k e hk2
theorem met_clear (M:List Int)(k:Nat)(hk:k < 65):(met M).set k (.bool false) = met (M.filter (fun y=>y != (k:Int))):=by
 apply List.ext_getElem?;intro j;rw [List.getElem?_set]
 by_cases hj:j < 65
 ·rw [met_at _ j hj,met_at _ j hj,met_length]
  by_cases h:k = j
  ·subst h
   rw [if_pos rfl,if_pos hk];simp
  ·rw [if_neg h]
   have:¬ (j:Int) = (k:Int):=by omega
   simp [this]
 ·rw [if_neg (by omega),List.getElem?_eq_none (by rw [met_length]; omega),List.getElem?_eq_none (by rw [met_length]; omega)]
theorem names_zero (L:List Lf):(0:Int)∉names L:=fun h=>(names_mem.1 h).1 rfl
theorem names_at {L:List Lf}{y:Int}:y∈names L↔y≠0∧∃ j:Nat,nameAt L (j:Int) = y:=by
 rw [names_mem]
 constructor
 ·rintro ⟨h0,l,hl,e⟩
  obtain⟨j,hj,rfl⟩:=List.getElem_of_mem hl;exact⟨h0,j,by rw [nameAt_get hj]; exact e⟩
 ·rintro ⟨h0,j,e⟩
  refine⟨h0,?_⟩
  by_cases hj:j < L.length
  ·rw [nameAt_get hj] at e
   exact⟨_,List.getElem_mem hj,e⟩
  ·unfold nameAt at e
   rw [Int.toNat_natCast,List.getElem?_eq_none (Nat.le_of_not_lt hj)] at e;exact absurd e.symm h0
theorem names_put {L:List Lf}(l:Lf)(he:addErr L l.name = 0):(1≤l.name∧l.name≤64)∧∀ y:Int,y∈names (putL L l)↔y = l.name∨y∈names L:=by
 have hb:1≤l.name∧l.name≤64:=by
  rcases addWays L l.name with ⟨_,h0⟩ | ⟨_,_,h0⟩ | ⟨_,_,_,h0⟩ | ⟨k1,_,_,_⟩
  ·rw [h0] at he; cases he
  ·rw [h0] at he; cases he
  ·rw [h0] at he; cases he
  ·rw [Bool.and_eq_true,decide_eq_true_eq,decide_eq_true_eq] at k1
   exact k1
 refine⟨hb,fun y=>?_⟩
 unfold putL;rw [if_pos he];unfold addL
 have hfw:firstBlank L < (wide L).length:=by
  have hfl:=firstBlank_le L;unfold wide
  split
  ·rw [List.length_append,List.length_singleton]; omega
  ·omega
 have hname:∀ j:Nat,nameAt ((wide L).set (firstBlank L) l) (j:Int) = if firstBlank L = j then l.name else nameAt L (j:Int):=fun j=>by
  by_cases hx:firstBlank L = j
  ·rw [if_pos hx]
   unfold nameAt;rw [Int.toNat_natCast,← hx,List.getElem?_set_self hfw]
   rfl
  ·rw [if_neg hx,← nameAt_wide L (j:Int)]
   unfold nameAt;rw [Int.toNat_natCast,List.getElem?_set_ne hx]
 rw [names_at,names_at]
 constructor
 ·rintro ⟨h0,j,e⟩
  rw [hname] at e
  split at e
  ·exact .inl e.symm
  ·exact .inr ⟨h0,j,e⟩
 ·rintro (e | ⟨h0,j,e⟩)
  ·exact⟨by omega,firstBlank L,by rw [hname,if_pos rfl]; exact e.symm⟩
  ·refine⟨h0,j,?_⟩
   rw [hname,if_neg]
   ·exact e
   ·intro e2
    rw [← e2,blank_name] at e;exact h0 e.symm
theorem names_leaf {L:List Lf}{k:Nat}(hk:k < L.length)(l:Lf)(hl:l.name = L[k].name):∀ y:Int,y∈names (L.set k l)↔y∈names L:=fun y=>by
 have hnames:∀ x:Int,nameAt (L.set k l) x = nameAt L x:=fun x=>by
  unfold nameAt
  by_cases hx:k = x.toNat
  ·rw [← hx,List.getElem?_set_self hk,List.getElem?_eq_getElem hk,Option.map_some,Option.map_some,hl]
  ·rw [List.getElem?_set_ne hx]
 rw [names_at,names_at];simp only [hnames]
theorem names_ren {L:List Lf}{x:Int}(hx:noneErr L x = 0)(pub:List UInt8):∀ y:Int,y∈names (renL L x pub)↔y∈names L:=by
 have hno:none L x = false:=by
  unfold noneErr at hx
  cases h2:none L x with
  | true=>rw [h2] at hx; cases hx
  | false=>rfl
 obtain⟨k,rfl,hk⟩:=none_not hno;unfold renL;rw [hno,Int.toNat_natCast,List.getElem?_eq_getElem hk];exact names_leaf hk _ rfl
theorem names_path {L:List Lf}{P:List Pr}{x:Int}(pub:List UInt8)(ks:List (List UInt8))(hx:pathErr L x ks.length = 0):∀ y:Int,y∈names (pathL L P x pub ks)↔y∈names L:=by
 have hno:none L x = false:=by
  unfold pathErr at hx
  cases h2:none L x with
  | true=>rw [h2] at hx; cases hx
  | false=>rfl
 obtain⟨k,rfl,hk⟩:=none_not hno;unfold pathL;rw [if_pos hx,Int.toNat_natCast,List.getElem?_eq_getElem hk];exact names_leaf hk _ rfl
theorem names_out {L:List Lf}{P:List Pr}(h:right L P = true){x:Int}(hx:noneErr L x = 0):(1≤nameAt L x∧nameAt L x≤64)∧∀ y:Int,y∈names (outL L x)↔y∈names L∧y≠nameAt L x:=by
 have hno:none L x = false:=by
  unfold noneErr at hx
  cases h2:none L x with
  | true=>rw [h2] at hx; cases hx
  | false=>rfl
 obtain⟨k,rfl,hk⟩:=none_not hno;obtain⟨h1,h2,h3,h4,h5⟩:=(right_iff L P).1 h
 have h0:nameAt L (k:Int)≠0:=by
  unfold none at hno;rw [Bool.or_eq_false_iff,Bool.or_eq_false_iff,beq_eq_false_iff_ne] at hno;exact hno.2.2
 have hin:nameAt L (k:Int)∈names L:=names_at.2 ⟨h0,k,rfl⟩;obtain⟨hnd,hall⟩:=leavesOk_names L [] h4;refine⟨⟨(hall _ hin).1,(hall _ hin).2.1⟩,fun y=>?_⟩
 unfold outL;rw [hno,Int.toNat_natCast];show y∈names (remL L k)↔_;unfold remL;obtain⟨L1,hL1⟩:∃ L1,L1 = L.set k Lf.zero:=⟨_,rfl⟩;rw [← hL1];obtain⟨_,s2⟩:=ends_spec L1 L.length;obtain⟨n',hn'⟩:∃ n',n' = ends L1 L.length:=⟨_,rfl⟩;rw [← hn'] at s2 ⊢;have hlen1:L1.length = L.length:=by rw [hL1,List.length_set]
 have ht:∀ j:Nat,nameAt (L1.take n') (j:Int) = nameAt L1 (j:Int):=fun j=>by
  by_cases hj:j < n'
  ·unfold nameAt
   rw [Int.toNat_natCast,List.getElem?_take,if_pos hj]
  ·have:nameAt L1 (j:Int) = 0:=by
    by_cases h7:j < L.length
    ·exact s2 j (Nat.le_of_not_lt hj) h7
    ·unfold nameAt
     rw [Int.toNat_natCast,List.getElem?_eq_none (by omega)]
     rfl
   rw [this];unfold nameAt;rw [Int.toNat_natCast,List.getElem?_take,if_neg hj]
   rfl
 have h1n:∀ j:Nat,nameAt L1 (j:Int) = if k = j then 0 else nameAt L (j:Int):=fun j=>by
  by_cases hj:k = j
  ·rw [if_pos hj]
   unfold nameAt;rw [Int.toNat_natCast,hL1,← hj,List.getElem?_set_self hk]
   rfl
  ·rw [if_neg hj]
   unfold nameAt;rw [Int.toNat_natCast,hL1,List.getElem?_set_ne hj]
 have hdis:∀ j:Nat,nameAt L (j:Int) = nameAt L (k:Int)→j = k:=fun j e=>by
  rw [leavesOk_iff] at h4
  have hj:j < L.length:=by
   by_cases hj:j < L.length
   ·exact hj
   ·unfold nameAt at e h0
    rw [Int.toNat_natCast,List.getElem?_eq_none (Nat.le_of_not_lt hj)] at e;exact absurd e.symm h0
  rw [nameAt_get hj,nameAt_get hk] at e;rw [nameAt_get hk] at h0
  rcases Nat.lt_trichotomy j k with a | a | a
  ·rcases h4 k hk with b | ⟨_,_,_,b⟩
   ·exact absurd (by rw [b]; rfl) h0
   ·exact absurd e (b j a)
  ·exact a
  ·rcases h4 j hj with b | ⟨_,_,_,b⟩
   ·exact absurd (by rw [← e,b]; rfl) h0
   ·exact absurd e.symm (b k a)
 rw [names_at,names_at];simp only [ht,h1n]
 constructor
 ·rintro ⟨a,j,e⟩
  split at e
  ·exact absurd e.symm a
  ·rename_i hjk
   refine⟨⟨a,j,e⟩,fun e2=>hjk (hdis j (e.trans e2)).symm⟩
 ·rintro ⟨⟨a,j,e⟩,e2⟩
  refine⟨a,j,?_⟩;rw [if_neg]
  ·exact e
  ·intro e3
   subst e3;exact e2 e.symm
theorem index_has {L:List Lf}{y:Int}:0≤index L y↔∃ l∈L,l.name = y:=by
 unfold index
 cases hf:L.findIdx? (fun l=>l.name == y) with
 | none=>
  rw [List.findIdx?_eq_none_iff] at hf
  constructor
  ·intro h
   have h2:(0:Int)≤-1:=h
   omega
  ·rintro ⟨l,hl,e⟩
   have:=hf l hl;rw [beq_eq_false_iff_ne] at this;exact absurd e this
 | some k=>
  constructor
  ·intro _
   obtain⟨hk,h2,_⟩:=List.findIdx?_eq_some_iff_getElem.1 hf;exact⟨L[k],List.getElem_mem hk,beq_iff_eq.1 h2⟩
  ·intro _
   show(0:Int)≤(k:Int);exact Int.natCast_nonneg k
theorem place_has {L:List Lf}{P:List Pr}(h:right L P = true){k:Nat}(h1:1≤k):decide (place L P (k:Int)≥0) = (names L).contains (k:Int)∧(0≤rplace L (k:Int)↔(k:Int)∈names L):=by
 have hp:=place_same h (k:Int);have hq:rplace L (k:Int) = index L (k:Int):=by unfold rplace; rw [if_pos (by omega)]
 have hr:0≤rplace L (k:Int)↔(k:Int)∈names L:=by
  rw [hq,index_has,names_mem];exact⟨fun a=>⟨by omega,a⟩,fun a=>a.2⟩
 refine⟨?_,hr⟩;rw [Bool.eq_iff_iff,List.contains_iff_mem,decide_eq_true_eq,hp];exact hr
end Tt
theorem yieldsIf_buildN8 {P:Program}{ops:Array Oper}{S:World→Prop}{op:Oper}{a:Act}(hw:Region.wanted op (yielded ops a.tmps) = true)(t:TypeId)(xs:Array (Nat × Operand))(ho:op.op = .build t xs)(vs:Array (Nat × Value))(hv:(xs.map fun(i,x)=>(i,a.eval x)) = vs)(u:Value)(hr:∀ w,(Instr.build t vs).run P w = .ok u w):YieldsIf P ops S op u a:=by
 subst hv
 exact .inl ⟨hw,fun w _=>by
  unfold execOp
  simp only [ho,Sem.run_bind,hr,Result.andThen_ok,Sem.run_pure]⟩
theorem alloc_act8 (w:World):(Instr.alloc 31 true (.tuple #[])).run Tryz.prog w = .ok (.pointer (some ⟨w.heap.size,0,none⟩)) (w.alloc (.cells #[.int .u8 0,.int .i64 0,.int .i64 0,.int .u8 0] 31)):=by kernel_rfl
def nameLeaf (n:Int):Lf:=⟨n,Tt.z32,Tt.z32,Tt.z32⟩
theorem build_nameLeaf (n:Int)(w:World):(Instr.build 37 #[(0,.int .i64 n)]).run Tryz.prog w = .ok (.agg (nameLeaf n).cells.toArray) w:=by kernel_rfl
theorem Ac8.all (a:Ac8):a.cells.toArray.all (·.oneCell') = true:=by simp [Ac8.cells,Value.oneCell']
structure Sn8 (w0 w:World) (qb ib xb ub:Nat) (VQ DX VU:Array Value) (R:List Value):Prop where
 k:Kept w0.heap.size w0.heap.size w0 w
 q:w.heap[qb]? = some (.cells VQ 27 (0,0))
 i:w.heap[ib]? = some (.cells R.toArray 53 (0,0))
 x:w.heap[xb]? = some (.cells DX 31 (0,0))
 u:w.heap[ub]? = some (.cells VU 27 (0,0))
 o:w0.heap.size≤qb∧qb < ib∧ib < xb∧xb < ub
section
variable {w0 w v:World} {qb ib xb ub:Nat} {VQ DX VU:Array Value} {R:List Value}
theorem Sn8.kept (h:Sn8 w0 w qb ib xb ub VQ DX VU R)(k:Kept w.heap.size w.heap.size w v):Sn8 w0 v qb ib xb ub VQ DX VU R:=
 ⟨h.k.onto k,row_kept h.q k,row_kept h.i k,row_kept h.x k,row_kept h.u k,h.o⟩
theorem Sn8.grow (h:Sn8 w0 w qb ib xb ub VQ DX VU R){b:Nat}(g:w.grownBy v (some b))(hb:w0.heap.size≤b):Kept w0.heap.size w0.heap.size w0 v∧(∀ c,c≠b→∀ {o:Obj},w.heap[c]? = some o→v.heap[c]? = some o):=
 ⟨h.k.grown g h.k.size (fun q hq=>by cases hq; exact hb),fun c hc _ hh=>(g.block c (lt_of_block hh) (fun e=>hc (Option.some.inj e))).trans hh⟩
theorem Sn8.setU (h:Sn8 w0 w qb ib xb ub VQ DX VU R)(V:Array Value):Sn8 w0 (w.setRow ub V) qb ib xb ub VQ DX V R:=by
 obtain⟨o0,o1,o2,o3⟩:=h.o;obtain⟨k,e⟩:=h.grow (grown_setRow w ub V) (by omega)
 exact⟨k,e qb (by omega) h.q,e ib (by omega) h.i,e xb (by omega) h.x,setRow_heap w ub _ V _ _ h.u,h.o⟩
theorem Sn8.setQ (h:Sn8 w0 w qb ib xb ub VQ DX VU R)(V:Array Value):Sn8 w0 (w.setRow qb V) qb ib xb ub V DX VU R:=by
 obtain⟨o0,o1,o2,o3⟩:=h.o;obtain⟨k,e⟩:=h.grow (grown_setRow w qb V) (by omega)
 exact⟨k,setRow_heap w qb _ V _ _ h.q,e ib (by omega) h.i,e xb (by omega) h.x,e ub (by omega) h.u,h.o⟩
theorem Sn8.setI (h:Sn8 w0 w qb ib xb ub VQ DX VU R)(j:Nat)(x:Value):Sn8 w0 (w.setCell ⟨ib,j,none⟩ x) qb ib xb ub VQ DX VU (R.set j x):=by
 obtain⟨o0,o1,o2,o3⟩:=h.o;obtain⟨k,e⟩:=h.grow (grown_set w ib j x) (by omega)
 exact⟨k,e qb (by omega) h.q,cells_set h.i j x,e xb (by omega) h.x,e ub (by omega) h.u,h.o⟩
end
end Go.Proofs.YtaobiofngnfdiaaGreatDoor
