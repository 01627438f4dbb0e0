/-
 A writer that is being written.
-/
import Derived.Test.YtnlbgggnpoeleaaGreatDoorGV
namespace Go.Proofs.YtnlbgggnpoeleaaGreatDoor
open Go.RowKit
structure Pu (w0:World) (base b:Nat) (s:List UInt8) (w:World):Prop where
 wr:Wr w base b (some s)
 tab:Tab w
 kp:Kept base b w0 w
 fr:Fr b w0 w
 pos:0<b
section
variable {w0 w w1:World} {base b:Nat} {s:List UInt8}
theorem Pu.start (h:Wr w base b (some s))(ht:Tab w)(hb:0<b):Pu w base b s w:=⟨h,ht,Kept.refl _ _ _,Fr.refl _ _,hb⟩
theorem Pu.kept (h:Pu w0 base b s w)(k:Kept w.heap.size w.heap.size w w1):Pu w0 base b s w1:=by
 have hlt:=h.wr.lt;have hle:=h.wr.le;refine⟨h.wr.same k.size (k.block b (by omega) (by omega)) (λi _ hi=>k.block i hi (by omega)),h.tab.same (k.block 0 h.tab.lt (zD h.tab.lt)),h.kp.trans (k.mono hle (λi hi _=>by omega)),λi o h1 h2 h3=>?_,h.pos⟩
 have h4:=h.fr i o h1 h2 h3;exact rk h4 k
theorem Pu.box (h:Pu w0 base b s w){lb:Nat}{cs:Array Value}{t:TypeId}(hb:w0.heap[lb]?=some (.cells cs t (0,0)))(hne:lb≠b)(ht:t≠5):w.heap[lb]?=some (.cells cs t (0,0)):=
 h.fr lb _ hb hne (λ_ _ e=>by injection e with _ e2;exact ht e2)
theorem Qqd (h:Wr w base b (some s)):WrV w base b (.pointer (some ⟨b,0,none⟩)) (some s):=.inr ⟨rfl,h⟩
theorem Qtl {st:Option (List UInt8)}(h:WrV w base b (.pointer (some ⟨b,0,none⟩)) st):Wr w base b st:=by
 rcases h with⟨h1,_⟩|⟨_,h2⟩
 ·cases h1
 ·exact h2
theorem Pu.next (h:Pu w0 base b s w){s1:List UInt8}(h1:Wr w1 base b (some s1))(k:Kept base b w w1)(f:Fr b w w1):Pu w0 base b s1 w1:=
 ⟨h1,h.tab.kept k (zC h.pos (Nat.le_of_lt h.wr.lt)) h.pos,h.kp.trans k,h.fr.trans f,h.pos⟩
theorem Qie (hs:s.length<=100000):Short (some s) 800000000:=λl hl=>by
 cases hl
 exact Nat.le_trans hs (by decide)
theorem Pu.num (h:Pu w0 base b s w)(n:Nat)(hn:n<=100000)(hs:s.length<=100000):Calls Tryz.prog 60 #[.pointer (some ⟨b,0,none⟩),.int .i64 (n:Int)] w λe w'=>e=.returned (.tuple #[])/\Pu w0 base b (s++Wm.enc n) w':=by
 refine(Qqe base b _ (some s) (n:Int) w (Qqd h.wr) h.tab (Qie hs)).mono ?_;rintro e w' ⟨rfl,h1,k,f⟩;rw[pNum,zG (by omega),Int.toNat_natCast] at h1
 exact⟨rfl,h.next (Qtl h1) k f⟩
theorem Pu.numL (h:Pu w0 base b s w)(n:Nat)(hn:n<=4611686018427387903)(hs:s.length<=100000):Calls Tryz.prog 60 #[.pointer (some ⟨b,0,none⟩),.int .i64 (n:Int)] w λe w'=>e=.returned (.tuple #[])/\Pu w0 base b (s++Wm.enc n) w':=by
 refine(Qqe base b _ (some s) (n:Int) w (Qqd h.wr) h.tab (Qie hs)).mono ?_;rintro e w' ⟨rfl,h1,k,f⟩;rw[pNum,zG (by omega),Int.toNat_natCast] at h1
 exact⟨rfl,h.next (Qtl h1) k f⟩
theorem Pu.hash (h:Pu w0 base b s w)(x:List UInt8)(hx:x.length=32)(hs:s.length<=100000):Calls Tryz.prog 57 #[.pointer (some ⟨b,0,none⟩),.agg (bY x).toArray] w λe w'=>e=.returned (.tuple #[])/\Pu w0 base b (s++x) w':=by
 refine(Qtq base b _ (some s) x hx w (Qqd h.wr) (Qie hs)).mono ?_;rintro e w' ⟨rfl,h1,k,f⟩;exact⟨rfl,h.next (Qtl h1) k f⟩
end
end Go.Proofs.YtnlbgggnpoeleaaGreatDoor
