/-
  The document's examples, as every statement looks at them first: 'awake' answers true.
-/
import Derived.Test.YtcjcomeakkjiiaaDoorGV

namespace Go.Proofs.YtcjcomeakkjiiaaDoor
open Go.RowKit

theorem awake_bytes : pText (pNum (some []) 16384) [97, 98] = some [128, 0, 64, 0, 2, 97, 98] := by decide +kernel
theorem awake_num : Wm.rNum [127, 255] 20000 = ⟨16383, [], 0⟩ := by
  have := Wm.rNum_enc 16383 (by omega) [] 20000 (by omega)
  have e : Wm.enc 16383 ++ [] = [127, 255] := by decide +kernel
  rwa [e] at this

end Go.Proofs.YtcjcomeakkjiiaaDoor
