/-
  No cell of these rows narrows 'for every input' (looked for: loops, veiled, ifaces, maps, wideKeys, modest, calm, conditions, laid).
  DERIVED. THE GIVEN ROWS OF THIS SEAT. 11 by the template 'for every input the law returns true; each argument reads behind the call as it read before'; 0 by the template 'total and deterministic' (their statements: YtdedookpdnbdiaaTotals.lean).
  GIVEN WITH THE SEED: the statements are not yours to turn. If you find one false, say at which input.
  Laid BY PROGRAM, IN A SANDBOX (cutbox-rows.mjs): the forced cells as the released guide's own fill.sh prints them over the translation 22db67b3f9ffc2be… (all of the seat's roots in one cut). By AI agents, Wed Nov 11 2026. No macro, syntax, notation, axiom, sorry.
-/
import Derived.Test.YtdedookpdnbdiaaChecked
import GoSem.Claim
import GoSem.ClaimJoined
import GoSem.ClaimMapViews
import Derived.JoinedTies
import Derived.KernelRfl
namespace Go.Proofs.Ytdedookpdnbdiaa
/- THE CELL 'sum', in the pinned program and in every row, IS THE sha256 OF THE DUMP (.gsa) THAT YtdedookpdnbdiaaProg.lean LOADS. Nothing in Lean hashes anything: it is a label: what it is worth is what the hold of that sum in a sandbox is worth. -/
noncomputable def Try.pinned : Pinned := { name := "ytdedookpdnbdiaa", sum := "22db67b3f9ffc2be2d241839a84ede45a50b76fca206167c1004711dd0136275", checked := Try.checked }
namespace Rows
def none {H : Type} : Left H := { results := [], args := [] }

/-- 'bevylaw04.BookMore': WHATEVER THE INPUT: true; the input reads as it did. -/
def bookMoreSpec : ChangeSpec := { name := "bookMore", fn := fun _ => fun
  | [d1, d2, d3, d4] => { results := [.lit (.bool true)], args := [d1, d2, d3, d4] }
  | _ => none }
def bookMoreRow : OpenClaim := { program := "ytdedookpdnbdiaa", sum := "22db67b3f9ffc2be2d241839a84ede45a50b76fca206167c1004711dd0136275", func := "bevy/bevylaw04.BookMore", spec := "bookMore", inPlace := ["internal/abi.NoEscape", "internal/bytealg.MakeNoZero", "internal/bytealg.Compare"], unfollowed := true, recurses := true, plainKeys := false, apart := false }
def BookMoreSaid : Prop := bookMoreRow.holds Try.pinned (OpenSpec.ofChange bookMoreSpec)

/-- ITS FALSE NEIGHBOUR: 'it returns false'. Refute it at one input. -/
def bookMoreWrong : ChangeSpec := { name := "bookMore", fn := fun _ => fun
  | [d1, d2, d3, d4] => { results := [.lit (.bool false)], args := [d1, d2, d3, d4] }
  | _ => none }
def BookMoreWrongFalsely : Prop := bookMoreRow.holds Try.pinned (OpenSpec.ofChange bookMoreWrong)

/-- 'bevylaw05.PrimKeys': WHATEVER THE INPUT: true; the input reads as it did. -/
def primKeysSpec : ChangeSpec := { name := "primKeys", fn := fun _ => fun
  | [d1, d2, d3, d4, d5] => { results := [.lit (.bool true)], args := [d1, d2, d3, d4, d5] }
  | _ => none }
def primKeysRow : OpenClaim := { program := "ytdedookpdnbdiaa", sum := "22db67b3f9ffc2be2d241839a84ede45a50b76fca206167c1004711dd0136275", func := "bevy/bevylaw05.PrimKeys", spec := "primKeys", inPlace := ["internal/abi.NoEscape", "internal/bytealg.MakeNoZero"], plainKeys := false, apart := false }
def PrimKeysSaid : Prop := primKeysRow.holds Try.pinned (OpenSpec.ofChange primKeysSpec)

/-- ITS FALSE NEIGHBOUR: 'it returns false'. Refute it at one input. -/
def primKeysWrong : ChangeSpec := { name := "primKeys", fn := fun _ => fun
  | [d1, d2, d3, d4, d5] => { results := [.lit (.bool false)], args := [d1, d2, d3, d4, d5] }
  | _ => none }
def PrimKeysWrongFalsely : Prop := primKeysRow.holds Try.pinned (OpenSpec.ofChange primKeysWrong)

/-- 'bevylaw05.PrimSeals': WHATEVER THE INPUT: true; the input reads as it did. -/
def primSealsSpec : ChangeSpec := { name := "primSeals", fn := fun _ => fun
  | [d1, d2, d3] => { results := [.lit (.bool true)], args := [d1, d2, d3] }
  | _ => none }
def primSealsRow : OpenClaim := { program := "ytdedookpdnbdiaa", sum := "22db67b3f9ffc2be2d241839a84ede45a50b76fca206167c1004711dd0136275", func := "bevy/bevylaw05.PrimSeals", spec := "primSeals", inPlace := ["internal/abi.NoEscape", "internal/bytealg.MakeNoZero"], plainKeys := false, apart := false }
def PrimSealsSaid : Prop := primSealsRow.holds Try.pinned (OpenSpec.ofChange primSealsSpec)

/-- ITS FALSE NEIGHBOUR: 'it returns false'. Refute it at one input. -/
def primSealsWrong : ChangeSpec := { name := "primSeals", fn := fun _ => fun
  | [d1, d2, d3] => { results := [.lit (.bool false)], args := [d1, d2, d3] }
  | _ => none }
def PrimSealsWrongFalsely : Prop := primSealsRow.holds Try.pinned (OpenSpec.ofChange primSealsWrong)

/-- 'bevylaw05.PrimOpens': WHATEVER THE INPUT: true; the input reads as it did. -/
def primOpensSpec : ChangeSpec := { name := "primOpens", fn := fun _ => fun
  | [d1, d2, d3] => { results := [.lit (.bool true)], args := [d1, d2, d3] }
  | _ => none }
def primOpensRow : OpenClaim := { program := "ytdedookpdnbdiaa", sum := "22db67b3f9ffc2be2d241839a84ede45a50b76fca206167c1004711dd0136275", func := "bevy/bevylaw05.PrimOpens", spec := "primOpens", inPlace := ["internal/abi.NoEscape", "internal/bytealg.MakeNoZero"], plainKeys := false, apart := false }
def PrimOpensSaid : Prop := primOpensRow.holds Try.pinned (OpenSpec.ofChange primOpensSpec)

/-- ITS FALSE NEIGHBOUR: 'it returns false'. Refute it at one input. -/
def primOpensWrong : ChangeSpec := { name := "primOpens", fn := fun _ => fun
  | [d1, d2, d3] => { results := [.lit (.bool false)], args := [d1, d2, d3] }
  | _ => none }
def PrimOpensWrongFalsely : Prop := primOpensRow.holds Try.pinned (OpenSpec.ofChange primOpensWrong)

/-- 'bevylaw05.PrimWraps': WHATEVER THE INPUT: true; the input reads as it did. -/
def primWrapsSpec : ChangeSpec := { name := "primWraps", fn := fun _ => fun
  | [d1, d2, d3, d4] => { results := [.lit (.bool true)], args := [d1, d2, d3, d4] }
  | _ => none }
def primWrapsRow : OpenClaim := { program := "ytdedookpdnbdiaa", sum := "22db67b3f9ffc2be2d241839a84ede45a50b76fca206167c1004711dd0136275", func := "bevy/bevylaw05.PrimWraps", spec := "primWraps", inPlace := ["internal/abi.NoEscape", "internal/bytealg.MakeNoZero"], plainKeys := false, apart := false }
def PrimWrapsSaid : Prop := primWrapsRow.holds Try.pinned (OpenSpec.ofChange primWrapsSpec)

/-- ITS FALSE NEIGHBOUR: 'it returns false'. Refute it at one input. -/
def primWrapsWrong : ChangeSpec := { name := "primWraps", fn := fun _ => fun
  | [d1, d2, d3, d4] => { results := [.lit (.bool false)], args := [d1, d2, d3, d4] }
  | _ => none }
def PrimWrapsWrongFalsely : Prop := primWrapsRow.holds Try.pinned (OpenSpec.ofChange primWrapsWrong)

/-- 'bevylaw05.PrimNotes': WHATEVER THE INPUT: true; the input reads as it did. -/
def primNotesSpec : ChangeSpec := { name := "primNotes", fn := fun _ => fun
  | [d1, d2] => { results := [.lit (.bool true)], args := [d1, d2] }
  | _ => none }
def primNotesRow : OpenClaim := { program := "ytdedookpdnbdiaa", sum := "22db67b3f9ffc2be2d241839a84ede45a50b76fca206167c1004711dd0136275", func := "bevy/bevylaw05.PrimNotes", spec := "primNotes", inPlace := ["internal/abi.NoEscape", "internal/bytealg.MakeNoZero", "internal/bytealg.Compare"], unfollowed := true, recurses := true, plainKeys := false, apart := false }
def PrimNotesSaid : Prop := primNotesRow.holds Try.pinned (OpenSpec.ofChange primNotesSpec)

/-- ITS FALSE NEIGHBOUR: 'it returns false'. Refute it at one input. -/
def primNotesWrong : ChangeSpec := { name := "primNotes", fn := fun _ => fun
  | [d1, d2] => { results := [.lit (.bool false)], args := [d1, d2] }
  | _ => none }
def PrimNotesWrongFalsely : Prop := primNotesRow.holds Try.pinned (OpenSpec.ofChange primNotesWrong)

/-- 'bevylaw05.PrimLearns': WHATEVER THE INPUT: true; the input reads as it did. -/
def primLearnsSpec : ChangeSpec := { name := "primLearns", fn := fun _ => fun
  | [d1, d2] => { results := [.lit (.bool true)], args := [d1, d2] }
  | _ => none }
def primLearnsRow : OpenClaim := { program := "ytdedookpdnbdiaa", sum := "22db67b3f9ffc2be2d241839a84ede45a50b76fca206167c1004711dd0136275", func := "bevy/bevylaw05.PrimLearns", spec := "primLearns", inPlace := ["internal/abi.NoEscape", "internal/bytealg.MakeNoZero", "internal/bytealg.Compare"], unfollowed := true, recurses := true, plainKeys := false, apart := false }
def PrimLearnsSaid : Prop := primLearnsRow.holds Try.pinned (OpenSpec.ofChange primLearnsSpec)

/-- ITS FALSE NEIGHBOUR: 'it returns false'. Refute it at one input. -/
def primLearnsWrong : ChangeSpec := { name := "primLearns", fn := fun _ => fun
  | [d1, d2] => { results := [.lit (.bool false)], args := [d1, d2] }
  | _ => none }
def PrimLearnsWrongFalsely : Prop := primLearnsRow.holds Try.pinned (OpenSpec.ofChange primLearnsWrong)

/-- 'bevylaw06.PprNotes': WHATEVER THE INPUT: true; the input reads as it did. -/
def pprNotesSpec : ChangeSpec := { name := "pprNotes", fn := fun _ => fun
  | [d1, d2, d3, d4] => { results := [.lit (.bool true)], args := [d1, d2, d3, d4] }
  | _ => none }
def pprNotesRow : OpenClaim := { program := "ytdedookpdnbdiaa", sum := "22db67b3f9ffc2be2d241839a84ede45a50b76fca206167c1004711dd0136275", func := "bevy/bevylaw06.PprNotes", spec := "pprNotes", inPlace := ["internal/abi.NoEscape", "internal/bytealg.MakeNoZero", "internal/bytealg.Compare"], unfollowed := true, recurses := true, plainKeys := false, apart := false }
def PprNotesSaid : Prop := pprNotesRow.holds Try.pinned (OpenSpec.ofChange pprNotesSpec)

/-- ITS FALSE NEIGHBOUR: 'it returns false'. Refute it at one input. -/
def pprNotesWrong : ChangeSpec := { name := "pprNotes", fn := fun _ => fun
  | [d1, d2, d3, d4] => { results := [.lit (.bool false)], args := [d1, d2, d3, d4] }
  | _ => none }
def PprNotesWrongFalsely : Prop := pprNotesRow.holds Try.pinned (OpenSpec.ofChange pprNotesWrong)

/-- 'bevylaw06.PprStays': WHATEVER THE INPUT: true; the input reads as it did. -/
def pprStaysSpec : ChangeSpec := { name := "pprStays", fn := fun _ => fun
  | [d1, d2, d3, d4] => { results := [.lit (.bool true)], args := [d1, d2, d3, d4] }
  | _ => none }
def pprStaysRow : OpenClaim := { program := "ytdedookpdnbdiaa", sum := "22db67b3f9ffc2be2d241839a84ede45a50b76fca206167c1004711dd0136275", func := "bevy/bevylaw06.PprStays", spec := "pprStays", inPlace := ["internal/abi.NoEscape", "internal/bytealg.MakeNoZero"], unfollowed := true, recurses := true, plainKeys := false, apart := false }
def PprStaysSaid : Prop := pprStaysRow.holds Try.pinned (OpenSpec.ofChange pprStaysSpec)

/-- ITS FALSE NEIGHBOUR: 'it returns false'. Refute it at one input. -/
def pprStaysWrong : ChangeSpec := { name := "pprStays", fn := fun _ => fun
  | [d1, d2, d3, d4] => { results := [.lit (.bool false)], args := [d1, d2, d3, d4] }
  | _ => none }
def PprStaysWrongFalsely : Prop := pprStaysRow.holds Try.pinned (OpenSpec.ofChange pprStaysWrong)

/-- 'bevylaw06.PprErased': WHATEVER THE INPUT: true; the input reads as it did. -/
def pprErasedSpec : ChangeSpec := { name := "pprErased", fn := fun _ => fun
  | [d1, d2, d3] => { results := [.lit (.bool true)], args := [d1, d2, d3] }
  | _ => none }
def pprErasedRow : OpenClaim := { program := "ytdedookpdnbdiaa", sum := "22db67b3f9ffc2be2d241839a84ede45a50b76fca206167c1004711dd0136275", func := "bevy/bevylaw06.PprErased", spec := "pprErased", inPlace := ["internal/abi.NoEscape", "internal/bytealg.MakeNoZero"], unfollowed := true, recurses := true, plainKeys := false, apart := false }
def PprErasedSaid : Prop := pprErasedRow.holds Try.pinned (OpenSpec.ofChange pprErasedSpec)

/-- ITS FALSE NEIGHBOUR: 'it returns false'. Refute it at one input. -/
def pprErasedWrong : ChangeSpec := { name := "pprErased", fn := fun _ => fun
  | [d1, d2, d3] => { results := [.lit (.bool false)], args := [d1, d2, d3] }
  | _ => none }
def PprErasedWrongFalsely : Prop := pprErasedRow.holds Try.pinned (OpenSpec.ofChange pprErasedWrong)

/-- 'bevylaw06.PprKeys': WHATEVER THE INPUT: true; the input reads as it did. -/
def pprKeysSpec : ChangeSpec := { name := "pprKeys", fn := fun _ => fun
  | [d1, d2, d3] => { results := [.lit (.bool true)], args := [d1, d2, d3] }
  | _ => none }
def pprKeysRow : OpenClaim := { program := "ytdedookpdnbdiaa", sum := "22db67b3f9ffc2be2d241839a84ede45a50b76fca206167c1004711dd0136275", func := "bevy/bevylaw06.PprKeys", spec := "pprKeys", inPlace := ["internal/abi.NoEscape", "internal/bytealg.MakeNoZero"], unfollowed := true, recurses := true, plainKeys := false, apart := false }
def PprKeysSaid : Prop := pprKeysRow.holds Try.pinned (OpenSpec.ofChange pprKeysSpec)

/-- ITS FALSE NEIGHBOUR: 'it returns false'. Refute it at one input. -/
def pprKeysWrong : ChangeSpec := { name := "pprKeys", fn := fun _ => fun
  | [d1, d2, d3] => { results := [.lit (.bool false)], args := [d1, d2, d3] }
  | _ => none }
def PprKeysWrongFalsely : Prop := pprKeysRow.holds Try.pinned (OpenSpec.ofChange pprKeysWrong)

/- THE SECOND FORM. 'bulk': how many values and letters a reading holds, each counted each time it is reached (what is shared counts as often as it is met; a slice's spare places count too). A statement '..UptoSaid' is the law's where the arguments, and the package variables that the reading takes, are together of bulk at most 1048576: NARROWER than '..Said'. Prove '..Said' where nothing that the law and all that it calls make is longer than what came in: it says more and counts as full. Else prove '..UptoSaid'. A law counts once. -/
mutual
def uptoBulk {H : Type} : DataW H → Nat
  | .lit (.string bytes) => bytes.length + 1
  | .lit _ => 1
  | .nil => 1
  | .ptr d => uptoBulk d + 1
  | .slice elems spare => uptoBulkAll elems + uptoBulkAll spare + 1
  | .agg parts => uptoBulkAll parts + 1
  | .iface _ d => uptoBulk d + 1
  | .map entries => uptoBulkEntries entries + 1
  | .held _ => 1
def uptoBulkAll {H : Type} : List (DataW H) → Nat
  | [] => 0
  | d :: r => uptoBulk d + uptoBulkAll r
def uptoBulkEntries {H : Type} : List (Lit × DataW H) → Nat
  | [] => 0
  | x :: r => uptoBulkEntry x + uptoBulkEntries r
def uptoBulkEntry {H : Type} : Lit × DataW H → Nat
  | (.string bytes, d) => bytes.length + uptoBulk d + 1
  | (_, d) => uptoBulk d + 1
 end
def uptoSmall : (H : Type) → List (DataW H) → Bool := fun _ ds => decide (uptoBulkAll ds ≤ 1048576)
def OpenSpec.upto (s : _root_.Go.ChangeSpec) : _root_.Go.OpenSpec := { _root_.Go.OpenSpec.ofChange s with cond := some uptoSmall }

/-- 'bevylaw04.BookMore', WHERE WHAT IT READS IS OF BULK AT MOST 1048576: true; the input reads as it did. -/
def bookMoreUptoRow : OpenClaim := { program := "ytdedookpdnbdiaa", sum := "22db67b3f9ffc2be2d241839a84ede45a50b76fca206167c1004711dd0136275", func := "bevy/bevylaw04.BookMore", spec := "bookMore", inPlace := ["internal/abi.NoEscape", "internal/bytealg.MakeNoZero", "internal/bytealg.Compare"], unfollowed := true, recurses := true, plainKeys := false, apart := false, narrowed := true }
def BookMoreUptoSaid : Prop := bookMoreUptoRow.holds Try.pinned (OpenSpec.upto bookMoreSpec)

/-- 'bevylaw05.PrimKeys', WHERE WHAT IT READS IS OF BULK AT MOST 1048576: true; the input reads as it did. -/
def primKeysUptoRow : OpenClaim := { program := "ytdedookpdnbdiaa", sum := "22db67b3f9ffc2be2d241839a84ede45a50b76fca206167c1004711dd0136275", func := "bevy/bevylaw05.PrimKeys", spec := "primKeys", inPlace := ["internal/abi.NoEscape", "internal/bytealg.MakeNoZero"], plainKeys := false, apart := false, narrowed := true }
def PrimKeysUptoSaid : Prop := primKeysUptoRow.holds Try.pinned (OpenSpec.upto primKeysSpec)

/-- 'bevylaw05.PrimSeals', WHERE WHAT IT READS IS OF BULK AT MOST 1048576: true; the input reads as it did. -/
def primSealsUptoRow : OpenClaim := { program := "ytdedookpdnbdiaa", sum := "22db67b3f9ffc2be2d241839a84ede45a50b76fca206167c1004711dd0136275", func := "bevy/bevylaw05.PrimSeals", spec := "primSeals", inPlace := ["internal/abi.NoEscape", "internal/bytealg.MakeNoZero"], plainKeys := false, apart := false, narrowed := true }
def PrimSealsUptoSaid : Prop := primSealsUptoRow.holds Try.pinned (OpenSpec.upto primSealsSpec)

/-- 'bevylaw05.PrimOpens', WHERE WHAT IT READS IS OF BULK AT MOST 1048576: true; the input reads as it did. -/
def primOpensUptoRow : OpenClaim := { program := "ytdedookpdnbdiaa", sum := "22db67b3f9ffc2be2d241839a84ede45a50b76fca206167c1004711dd0136275", func := "bevy/bevylaw05.PrimOpens", spec := "primOpens", inPlace := ["internal/abi.NoEscape", "internal/bytealg.MakeNoZero"], plainKeys := false, apart := false, narrowed := true }
def PrimOpensUptoSaid : Prop := primOpensUptoRow.holds Try.pinned (OpenSpec.upto primOpensSpec)

/-- 'bevylaw05.PrimWraps', WHERE WHAT IT READS IS OF BULK AT MOST 1048576: true; the input reads as it did. -/
def primWrapsUptoRow : OpenClaim := { program := "ytdedookpdnbdiaa", sum := "22db67b3f9ffc2be2d241839a84ede45a50b76fca206167c1004711dd0136275", func := "bevy/bevylaw05.PrimWraps", spec := "primWraps", inPlace := ["internal/abi.NoEscape", "internal/bytealg.MakeNoZero"], plainKeys := false, apart := false, narrowed := true }
def PrimWrapsUptoSaid : Prop := primWrapsUptoRow.holds Try.pinned (OpenSpec.upto primWrapsSpec)

/-- 'bevylaw05.PrimNotes', WHERE WHAT IT READS IS OF BULK AT MOST 1048576: true; the input reads as it did. -/
def primNotesUptoRow : OpenClaim := { program := "ytdedookpdnbdiaa", sum := "22db67b3f9ffc2be2d241839a84ede45a50b76fca206167c1004711dd0136275", func := "bevy/bevylaw05.PrimNotes", spec := "primNotes", inPlace := ["internal/abi.NoEscape", "internal/bytealg.MakeNoZero", "internal/bytealg.Compare"], unfollowed := true, recurses := true, plainKeys := false, apart := false, narrowed := true }
def PrimNotesUptoSaid : Prop := primNotesUptoRow.holds Try.pinned (OpenSpec.upto primNotesSpec)

/-- 'bevylaw05.PrimLearns', WHERE WHAT IT READS IS OF BULK AT MOST 1048576: true; the input reads as it did. -/
def primLearnsUptoRow : OpenClaim := { program := "ytdedookpdnbdiaa", sum := "22db67b3f9ffc2be2d241839a84ede45a50b76fca206167c1004711dd0136275", func := "bevy/bevylaw05.PrimLearns", spec := "primLearns", inPlace := ["internal/abi.NoEscape", "internal/bytealg.MakeNoZero", "internal/bytealg.Compare"], unfollowed := true, recurses := true, plainKeys := false, apart := false, narrowed := true }
def PrimLearnsUptoSaid : Prop := primLearnsUptoRow.holds Try.pinned (OpenSpec.upto primLearnsSpec)

/-- 'bevylaw06.PprNotes', WHERE WHAT IT READS IS OF BULK AT MOST 1048576: true; the input reads as it did. -/
def pprNotesUptoRow : OpenClaim := { program := "ytdedookpdnbdiaa", sum := "22db67b3f9ffc2be2d241839a84ede45a50b76fca206167c1004711dd0136275", func := "bevy/bevylaw06.PprNotes", spec := "pprNotes", inPlace := ["internal/abi.NoEscape", "internal/bytealg.MakeNoZero", "internal/bytealg.Compare"], unfollowed := true, recurses := true, plainKeys := false, apart := false, narrowed := true }
def PprNotesUptoSaid : Prop := pprNotesUptoRow.holds Try.pinned (OpenSpec.upto pprNotesSpec)

/-- 'bevylaw06.PprStays', WHERE WHAT IT READS IS OF BULK AT MOST 1048576: true; the input reads as it did. -/
def pprStaysUptoRow : OpenClaim := { program := "ytdedookpdnbdiaa", sum := "22db67b3f9ffc2be2d241839a84ede45a50b76fca206167c1004711dd0136275", func := "bevy/bevylaw06.PprStays", spec := "pprStays", inPlace := ["internal/abi.NoEscape", "internal/bytealg.MakeNoZero"], unfollowed := true, recurses := true, plainKeys := false, apart := false, narrowed := true }
def PprStaysUptoSaid : Prop := pprStaysUptoRow.holds Try.pinned (OpenSpec.upto pprStaysSpec)

/-- 'bevylaw06.PprErased', WHERE WHAT IT READS IS OF BULK AT MOST 1048576: true; the input reads as it did. -/
def pprErasedUptoRow : OpenClaim := { program := "ytdedookpdnbdiaa", sum := "22db67b3f9ffc2be2d241839a84ede45a50b76fca206167c1004711dd0136275", func := "bevy/bevylaw06.PprErased", spec := "pprErased", inPlace := ["internal/abi.NoEscape", "internal/bytealg.MakeNoZero"], unfollowed := true, recurses := true, plainKeys := false, apart := false, narrowed := true }
def PprErasedUptoSaid : Prop := pprErasedUptoRow.holds Try.pinned (OpenSpec.upto pprErasedSpec)

/-- 'bevylaw06.PprKeys', WHERE WHAT IT READS IS OF BULK AT MOST 1048576: true; the input reads as it did. -/
def pprKeysUptoRow : OpenClaim := { program := "ytdedookpdnbdiaa", sum := "22db67b3f9ffc2be2d241839a84ede45a50b76fca206167c1004711dd0136275", func := "bevy/bevylaw06.PprKeys", spec := "pprKeys", inPlace := ["internal/abi.NoEscape", "internal/bytealg.MakeNoZero"], unfollowed := true, recurses := true, plainKeys := false, apart := false, narrowed := true }
def PprKeysUptoSaid : Prop := pprKeysUptoRow.holds Try.pinned (OpenSpec.upto pprKeysSpec)

end Rows
end Go.Proofs.Ytdedookpdnbdiaa
