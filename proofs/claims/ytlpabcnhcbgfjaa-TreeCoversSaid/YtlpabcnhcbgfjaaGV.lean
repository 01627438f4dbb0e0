/-
 WireMath; WireMem; WireWriter; WireNum; WireText; WireTake; WireRNum; WireRText; WireRHash; WireRef: several texts in one.
-/
import Derived.Test.YtlpabcnhcbgfjaaGA
import Derived.Test.YtlpabcnhcbgfjaaProg
import Derived.WalkSpells
import Derived.Outline
import Derived.Laws.BytesArg
import Derived.Lib.Hide
import Derived.Laws.CopyOwn
set_option maxRecDepth 100000
namespace Go.Proofs.Ytlpabcnhcbgfjaa.Wm
def be (m:Nat):Nat→List UInt8
 | 0=>[]
 | k + 1=>UInt8.ofNat (m / 256 ^ k) :: be m k
theorem be_length (m:Nat):∀ k,(be m k).length = k
 | 0=>rfl
 | k + 1=>by rw [be,List.length_cons,be_length m k]
def enc (n:Nat):List UInt8:=
 if n < 64 then be n 1 else if n < 16384 then be (16384 + n) 2 else if n < 1073741824 then be (2147483648 + n) 4 else be (13835058055282163712 + n) 8
theorem enc_length_le (n:Nat):(enc n).length≤8:=by
 unfold enc
 split
 ·rw [be_length]; omega
 ·split
  ·rw [be_length]; omega
  ·split
   ·rw [be_length]; omega
   ·rw [be_length]; omega
def valOf (acc:Nat)(l:List UInt8):Nat:=l.foldl (fun n b=>n * 256 + b.toNat) acc
def bnd:Nat→Nat
 | 0=>63
 | 1=>16383
 | 2=>1073741823
 | _=>4611686018427387903
def more (f:UInt8):Nat:=2 ^ (f.toNat / 64) - 1
def nval (f:UInt8)(t:List UInt8):Nat:=valOf (f.toNat % 64) (t.take (more f))
def least (f:UInt8)(t:List UInt8):Bool:=decide (f.toNat / 64 = 0∨bnd (f.toNat / 64 - 1) < nval f t)
structure Got (α:Type) where
 val:α
 left:List UInt8
 err:Int
def rNum (l:List UInt8)(most:Int):Got Int:=
 match l with
 | []=>⟨0,[],2⟩
 | f :: t=>if t.length < more f then ⟨0,[],2⟩ else if least f t = false then ⟨0,[],3⟩ else if most < nval f t then ⟨0,[],5⟩ else ⟨nval f t,t.drop (more f),0⟩
def rRaw (l:List UInt8)(n:Nat):Got (List UInt8):=if l.length < n then ⟨[],[],2⟩ else ⟨l.take n,l.drop n,0⟩
def rText (l:List UInt8)(most:Int):Got (List UInt8):=
 if (rNum l (min most 65536)).err = 0 then rRaw (rNum l (min most 65536)).left (rNum l (min most 65536)).val.toNat else ⟨[],[],(rNum l (min most 65536)).err⟩
def rFlag (l:List UInt8):Got Bool:=
 match l with
 | []=>⟨false,[],2⟩
 | f :: t=>if 1 < f.toNat then ⟨false,[],3⟩ else ⟨f.toNat == 1,t,0⟩
end Go.Proofs.Ytlpabcnhcbgfjaa.Wm
namespace Go.Proofs.Ytlpabcnhcbgfjaa
open Go.RowKit
structure Tab (w:World):Prop where
 c0:w.cell? ⟨0,0,none⟩ = some (.int .i64 63)
 c1:w.cell? ⟨0,1,none⟩ = some (.int .i64 16383)
 c2:w.cell? ⟨0,2,none⟩ = some (.int .i64 1073741823)
 c3:w.cell? ⟨0,3,none⟩ = some (.int .i64 4611686018427387903)
theorem Tab.lt {w:World}(h:Tab w):0 < w.heap.size:=World.block_lt_of_cell? _ _ h.c0
theorem Tab.same {w w':World}(h:Tab w)(e:w'.heap[0]? = w.heap[0]?):Tab w':=
 ⟨(World.cell?_of_block (w:=w) e).trans h.c0,(World.cell?_of_block (w:=w) e).trans h.c1,(World.cell?_of_block (w:=w) e).trans h.c2,(World.cell?_of_block (w:=w) e).trans h.c3⟩
theorem Tab.kept {base b:Nat}{w w':World}(h:Tab w)(k:Kept base b w w')(h1:0 < base)(h2:0 < b):Tab w':=h.same (k.block 0 h1 (by omega))
theorem Tab.at {w:World}(h:Tab w)(k:Nat)(hk:k < 4):w.cell? ⟨0,k,none⟩ = some (.int .i64 (Wm.bnd k)):=by
 match k,hk with
 | 0,_=>exact h.c0
 | 1,_=>exact h.c1
 | 2,_=>exact h.c2
 | 3,_=>exact h.c3
def pNum (st:Option (List UInt8))(n:Int):Option (List UInt8):=if 0≤n∧n≤4611686018427387903 then st.map (· ++ Wm.enc n.toNat) else none
def pText (st:Option (List UInt8))(s:List UInt8):Option (List UInt8):=if s.length≤65536 then st.map (· ++ (Wm.enc s.length ++ s)) else none
def pRaw (st:Option (List UInt8))(s:List UInt8):Option (List UInt8):=st.map (· ++ s)
def Short (st:Option (List UInt8))(n:Nat):Prop:=∀ l,st = some l→l.length≤n
theorem Tab.drew {w:World}(h:Tab w):Tab w.drew:=h.same rfl
def Shows (w:World)(b:Nat)(ao:Option Addr)(l:List UInt8):Prop:=0 < l.length→∃ g o,ao = some ⟨g,o,none⟩∧g≠b∧g < w.heap.size∧∀ j (hj:j < l.length),w.cell? ⟨g,o + j,none⟩ = some (.int .u8 (l[j]).toNat)
end Go.Proofs.Ytlpabcnhcbgfjaa
namespace Go.Proofs.Ytlpabcnhcbgfjaa
open Go.RowKit
end Go.Proofs.Ytlpabcnhcbgfjaa
namespace Go.Proofs.Ytlpabcnhcbgfjaa
open Go.RowKit
end Go.Proofs.Ytlpabcnhcbgfjaa
namespace Go.Proofs.Ytlpabcnhcbgfjaa
open Go.RowKit
theorem cells_new (w:World)(l:List UInt8)(t:TypeId):∀ j (hj:j < l.length),(w.alloc (.cells (bcells l).toArray t)).cell? (Addr.add ⟨w.heap.size,0,none⟩ j) = some (.int .u8 (l[j]).toNat):=by
 intro j hj;rw [Addr.add_lit];refine(World.cell?_alloc_mark w (bcells l).toArray t (0,0) (0 + j)).trans ?_;rw [Nat.zero_add,List.getElem?_toArray,bcells_get l j hj]
end Go.Proofs.Ytlpabcnhcbgfjaa
namespace Go.Proofs.Ytlpabcnhcbgfjaa
open Go.RowKit
def Failed (w:World)(p:Value)(e:Int):Prop:=e≠0∧((p = .pointer none∧e = 1)∨∃ b,p = .pointer (some ⟨b,0,none⟩)∧w.cell? ⟨b,1,none⟩ = some (.int .i64 e))
def TakeRaw (w:World)(b:Nat)(ao:Option Addr)(len c n:Nat)(e:Ending)(w':World):Prop:=
 e = .returned (.tuple #[.slice ao n c,.bool true])∧∃ a',(n < c→a' = ao.map (·.add n))∧w.setCell ⟨b,0,none⟩ (.slice a' (len - n) (c - n)) = w'
end Go.Proofs.Ytlpabcnhcbgfjaa
namespace Go.Proofs.Ytlpabcnhcbgfjaa
open Go.RowKit
theorem Kept.step {b:Nat}{w w1 w2:World}(h:Kept w.heap.size b w w1)(k:Kept w1.heap.size b w1 w2):Kept w.heap.size b w w2:=h.trans (k.mono h.size (fun _ _ h=>h))
end Go.Proofs.Ytlpabcnhcbgfjaa
namespace Go.Proofs.Ytlpabcnhcbgfjaa
open Go.RowKit
end Go.Proofs.Ytlpabcnhcbgfjaa
namespace Go.Proofs.Ytlpabcnhcbgfjaa
open Go.RowKit
end Go.Proofs.Ytlpabcnhcbgfjaa
namespace Go.Proofs.Ytlpabcnhcbgfjaa
open Go.RowKit
open Go.Lib (hid)
theorem lit_string (w:World)(cells:Array Value)(t:TypeId)(l:List UInt8)(n:Nat)(hn:l.length = n)(hc:cells = (bcells l).toArray):
  (convert 106 9 (.slice (some ⟨w.heap.size,0,none⟩) n n)).run Try.prog (w.alloc (.cells cells t)) = .ok (.string (str l)) (w.alloc (.cells cells t)):=by
 subst hn;subst hc;exact run_convert_bytes_back (w.alloc (.cells (bcells l).toArray t)) _ _ _ ⟨w.heap.size,0,none⟩ _ l Try.underlying106 Try.underlying5 Try.underlying9 (cells_new w l t)
theorem byte_eq (x:Int)(m:Nat)(h:x = ((m % 256:Nat):Int)):Value.int .u8 x = Value.int .u8 ((UInt8.ofNat m).toNat:Int):=by
 rw [h,UInt8.toNat_ofNat']
theorem lit1 (x0:Int)(m:Nat)(h0:x0 = ((m % 256:Nat):Int)): #[Value.int .u8 x0] = (bcells (Wm.be m 1)).toArray:=by
 rw [byte_eq x0 _ h0];simp [bcells,Wm.be]
theorem lit2 (x0 x1:Int)(m:Nat)(h0:x0 = ((m / 256 % 256:Nat):Int))(h1:x1 = ((m % 256:Nat):Int)): #[Value.int .u8 x0,Value.int .u8 x1] = (bcells (Wm.be m 2)).toArray:=by
 rw [byte_eq x0 _ h0,byte_eq x1 _ h1]
 simp [bcells,Wm.be]
theorem lit4 (x0 x1 x2 x3:Int)(m:Nat)(h0:x0 = ((m / 16777216 % 256:Nat):Int))(h1:x1 = ((m / 65536 % 256:Nat):Int))(h2:x2 = ((m / 256 % 256:Nat):Int))(h3:x3 = ((m % 256:Nat):Int)):
  #[Value.int .u8 x0,Value.int .u8 x1,Value.int .u8 x2,Value.int .u8 x3] = (bcells (Wm.be m 4)).toArray:=by
 rw [byte_eq x0 _ h0,byte_eq x1 _ h1,byte_eq x2 _ h2,byte_eq x3 _ h3]
 simp [bcells,Wm.be]
theorem lit8 (x0 x1 x2 x3 x4 x5 x6 x7:Int)(m:Nat)(h0:x0 = ((m / 72057594037927936 % 256:Nat):Int))(h1:x1 = ((m / 281474976710656 % 256:Nat):Int))(h2:x2 = ((m / 1099511627776 % 256:Nat):Int))(h3:x3 = ((m / 4294967296 % 256:Nat):Int))
  (h4:x4 = ((m / 16777216 % 256:Nat):Int)) (h5:x5 = ((m / 65536 % 256:Nat):Int)) (h6:x6 = ((m / 256 % 256:Nat):Int)) (h7:x7 = ((m % 256:Nat):Int)) :
  #[Value.int .u8 x0,Value.int .u8 x1,Value.int .u8 x2,Value.int .u8 x3,Value.int .u8 x4,Value.int .u8 x5,Value.int .u8 x6,Value.int .u8 x7] = (bcells (Wm.be m 8)).toArray:=by
 rw [byte_eq x0 _ h0,byte_eq x1 _ h1,byte_eq x2 _ h2,byte_eq x3 _ h3,byte_eq x4 _ h4,byte_eq x5 _ h5,byte_eq x6 _ h6,byte_eq x7 _ h7]
 simp [bcells,Wm.be]
theorem refnum_0 (n:Nat)(w:World)(h:n < 64):Calls Try.prog 87 #[.int .i64 n] w fun e w'=>e = .returned (.string (str (Wm.be n 1)))∧Kept w.heap.size w.heap.size w w':=by
 have L:=hid (lit1 n n (by omega))
 go_enter Try.func87,Try.ntmps87
 go_wp2_with fail
 rw [lit_string w _ _ (Wm.be n 1) 1 (Wm.be_length _ _) L.out];clear L;go_wp2;go_ret;exact⟨rfl,(Kept.refl _ _ _).alloc (Nat.le_refl _) _⟩
theorem refnum_1 (n:Nat)(w:World)(hm:n≤16383)(hb0:decide ((n:Int) < 64) = false)(hb1:decide ((n:Int) < 16384) = true):Calls Try.prog 87 #[.int .i64 n] w fun e w'=>e = .returned (.string (str (Wm.be (16384 + n) 2)))∧Kept w.heap.size w.heap.size w w':=by
 have L:=hid (lit2 (64 + (n:Int) / 256) ((n:Int) % 256) (16384 + n) (by omega) (by omega))
 go_enter Try.func87,Try.ntmps87
 go_wp2_with fail
 rw [lit_string w _ _ (Wm.be (16384 + n) 2) 2 (Wm.be_length _ _) L.out];clear L;go_wp2;go_ret;exact⟨rfl,(Kept.refl _ _ _).alloc (Nat.le_refl _) _⟩
theorem refnum_2 (n:Nat)(w:World)(hm:n≤4611686018427387903)(hb0:decide ((n:Int) < 64) = false)(hb1:decide ((n:Int) < 16384) = false)(hb2:decide ((n:Int) < 1073741824) = true):Calls Try.prog 87 #[.int .i64 n] w fun e w'=>e = .returned (.string (str (Wm.be (2147483648 + n) 4)))∧Kept w.heap.size w.heap.size w w':=by
 have L:=hid (lit4 ((128 + (n:Int) / 16777216) % 256) ((n:Int) / 65536 % 256) ((n:Int) / 256 % 256) ((n:Int) % 256) (2147483648 + n) (by omega) (by omega) (by omega) (by omega))
 go_enter Try.func87,Try.ntmps87
 go_wp2_with fail
 rw [lit_string w _ _ (Wm.be (2147483648 + n) 4) 4 (Wm.be_length _ _) L.out];clear L;go_wp2;go_ret;exact⟨rfl,(Kept.refl _ _ _).alloc (Nat.le_refl _) _⟩
theorem refnum_3 (n:Nat)(w:World)(hm:n≤4611686018427387903)(hb0:decide ((n:Int) < 64) = false)(hb1:decide ((n:Int) < 16384) = false)(hb2:decide ((n:Int) < 1073741824) = false):Calls Try.prog 87 #[.int .i64 n] w fun e w'=>e = .returned (.string (str (Wm.be (13835058055282163712 + n) 8)))∧Kept w.heap.size w.heap.size w w':=by
 have L:=hid (lit8 ((n:Int) / 256 / 256 / 256 / 256 / 256 / 256 / 256 % 256 + 192) ((n:Int) / 256 / 256 / 256 / 256 / 256 / 256 % 256) ((n:Int) / 256 / 256 / 256 / 256 / 256 % 256) ((n:Int) / 256 / 256 / 256 / 256 % 256) ((n:Int) / 256 / 256 / 256 % 256) ((n:Int) / 256 / 256 % 256) ((n:Int) / 256 % 256) ((n:Int) % 256)
  (13835058055282163712 + n) (by omega) (by omega) (by omega) (by omega) (by omega) (by omega) (by omega) (by omega))
 go_enter Try.func87,Try.ntmps87
 go_wp2;refine wp_loop_rounds 9 ?_; rw [rounds_succ];go_wp2;iterate 8 (rw [rounds_succ]; go_wp2)
 rw [lit_string w _ _ (Wm.be (13835058055282163712 + n) 8) 8 (Wm.be_length _ _) L.out];clear L;go_wp2;go_ret;exact⟨rfl,(Kept.refl _ _ _).alloc (Nat.le_refl _) _⟩
theorem refnum (n:Nat)(w:World)(hm:n≤4611686018427387903):Calls Try.prog 87 #[.int .i64 n] w fun e w'=>e = .returned (.string (str (Wm.enc n)))∧Kept w.heap.size w.heap.size w w':=by
 unfold Wm.enc
 by_cases h1:n < 64
 ·rw [if_pos h1]; exact refnum_0 n w h1
 ·rw [if_neg h1]
  have b0:decide ((n:Int) < 64) = false:=by rw [decide_eq_false_iff_not]; omega
  by_cases h2:n < 16384
  ·rw [if_pos h2]; exact refnum_1 n w (by omega) b0 (by rw [decide_eq_true_iff]; omega)
  ·rw [if_neg h2]
   have b1:decide ((n:Int) < 16384) = false:=by rw [decide_eq_false_iff_not]; omega
   by_cases h3:n < 1073741824
   ·rw [if_pos h3]; exact refnum_2 n w hm b0 b1 (by rw [decide_eq_true_iff]; omega)
   ·rw [if_neg h3]; exact refnum_3 n w hm b0 b1 (by rw [decide_eq_false_iff_not]; omega)
theorem refflag (x:Bool)(w:World):Calls Try.prog 86 #[.bool x] w fun e w'=>e = .returned (.string (str [if x then 1 else 0]))∧w = w':=by
 cases x
 all_goals
  go_enter Try.func86,Try.ntmps86
  go_wp2;go_ret;exact⟨rfl,rfl⟩
end Go.Proofs.Ytlpabcnhcbgfjaa
