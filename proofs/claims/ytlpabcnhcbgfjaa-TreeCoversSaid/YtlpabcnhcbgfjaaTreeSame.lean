/-
 The document's Same, of two trees that are alike.
-/
import Derived.Test.YtlpabcnhcbgfjaaHA
import Derived.Test.YtlpabcnhcbgfjaaHK
namespace Go.Proofs.Ytlpabcnhcbgfjaa
open Go.RowKit Go.Lib
open List renaming setIfInBounds_toArray → sA, set_cons_zero → sB, set_cons_succ → sC
open BigFrame renaming wpList_want → wQ
section
variable {P:Program} {ops:Array Oper} {a:Act} {S:World→Prop}
end
theorem Mine.leafRow {B:Nat→Prop}{w:World}{lad:Option Addr}{n c:Nat}{pv:Value}{L:List Lf}{P:List Pr}{SL:List Value}(h:Mine B w (.slice lad n c) pv L P SL)(i:Nat)(hi:i < L.length):∃ g,lad = some ⟨g,0,none⟩∧g < w.heap.size∧L[i].Ok∧w.rangeAt g (i * 97) L[i].cells:=by
 obtain⟨ad,g,c2,hv,hc,_⟩:=h.lo.at;obtain⟨ha,_,hg,hr⟩:=hc i (by rw [List.length_map]; exact hi)
 injection hv with hx _ _
 rw [List.getElem_map,Nat.zero_add] at hr;exact⟨g,hx.trans ha,hg,h.lok _ (List.getElem_mem hi),hr⟩
theorem Mine.parentRow {B:Nat→Prop}{w:World}{lv:Value}{pad:Option Addr}{n c:Nat}{L:List Lf}{P:List Pr}{SL:List Value}(h:Mine B w lv (.slice pad n c) L P SL)(i:Nat)(hi:i < P.length):∃ g s,pad = some ⟨g,0,none⟩∧g < w.heap.size∧P[i].Ok∧w.rangeAt g (i * 66) (P[i].cells s)∧Ints w 0 s P[i].loose:=by
 obtain⟨ad,g,c2,hv,hc,_⟩:=h.po.at;obtain⟨ha,_,hg,hr⟩:=hc i (by rw [zip_len h]; exact hi)
 injection hv with hx _ _
 have hs:i < SL.length:=by rw [h.len]; exact hi
 rw [List.getElem_zipWith,Nat.zero_add] at hr;exact⟨g,SL[i],hx.trans ha,hg,h.pok _ (List.getElem_mem hi),hr,h.so i _ _ (List.getElem?_eq_getElem hi) (List.getElem?_eq_getElem hs)⟩
end Go.Proofs.Ytlpabcnhcbgfjaa
