/-
  No cell of these rows narrows 'for every input' (looked for: loops, veiled, ifaces, maps, wideKeys, modest, calm, conditions, laid).
  DERIVED. THE GIVEN ROWS OF THIS SEAT. 3 by the template 'for every input the law returns true; each argument reads behind the call as it read before'; 0 by the template 'total and deterministic' (their statements: YtanfnafiofkihaaTotals.lean).
  GIVEN WITH THE SEED: the statements are not yours to turn. If you find one false, say at which input.
  Laid BY PROGRAM, IN A SANDBOX (cutbox-rows.mjs): the forced cells as the released guide's own fill.sh prints them over the translation 07eab643d05dc2c8… (all of the seat's roots in one cut). By AI agents, Wed Nov 11 2026. No macro, syntax, notation, axiom, sorry.
-/
import Derived.Test.YtanfnafiofkihaaChecked
import GoSem.Claim
import GoSem.ClaimJoined
import GoSem.ClaimMapViews
import Derived.JoinedTies
import Derived.KernelRfl
namespace Go.Proofs.Ytanfnafiofkihaa
/- THE CELL 'sum', in the pinned program and in every row, IS THE sha256 OF THE DUMP (.gsa) THAT YtanfnafiofkihaaProg.lean LOADS. Nothing in Lean hashes anything: it is a label: what it is worth is what the hold of that sum in a sandbox is worth. -/
noncomputable def Try.pinned : Pinned := { name := "ytanfnafiofkihaa", sum := "07eab643d05dc2c8865a08bbe2d4489d44c1c5ace983a8da9e1bae3cd05881dd", checked := Try.checked }
namespace Rows
def none {H : Type} : Left H := { results := [], args := [] }

/-- 'bevylaw05.PrimNotes': WHATEVER THE INPUT: true; the input reads as it did. -/
def primNotesSpec : ChangeSpec := { name := "primNotes", fn := fun _ => fun
  | [d1, d2] => { results := [.lit (.bool true)], args := [d1, d2] }
  | _ => none }
def primNotesRow : OpenClaim := { program := "ytanfnafiofkihaa", sum := "07eab643d05dc2c8865a08bbe2d4489d44c1c5ace983a8da9e1bae3cd05881dd", func := "bevy/bevylaw05.PrimNotes", spec := "primNotes", inPlace := ["internal/abi.NoEscape", "internal/bytealg.MakeNoZero", "internal/bytealg.Compare"], unfollowed := true, recurses := true, plainKeys := false, apart := false }
def PrimNotesSaid : Prop := primNotesRow.holds Try.pinned (OpenSpec.ofChange primNotesSpec)

/-- ITS FALSE NEIGHBOUR: 'it returns false'. Refute it at one input. -/
def primNotesWrong : ChangeSpec := { name := "primNotes", fn := fun _ => fun
  | [d1, d2] => { results := [.lit (.bool false)], args := [d1, d2] }
  | _ => none }
def PrimNotesWrongFalsely : Prop := primNotesRow.holds Try.pinned (OpenSpec.ofChange primNotesWrong)

/-- 'bevylaw06.PprNotes': WHATEVER THE INPUT: true; the input reads as it did. -/
def pprNotesSpec : ChangeSpec := { name := "pprNotes", fn := fun _ => fun
  | [d1, d2, d3, d4] => { results := [.lit (.bool true)], args := [d1, d2, d3, d4] }
  | _ => none }
def pprNotesRow : OpenClaim := { program := "ytanfnafiofkihaa", sum := "07eab643d05dc2c8865a08bbe2d4489d44c1c5ace983a8da9e1bae3cd05881dd", func := "bevy/bevylaw06.PprNotes", spec := "pprNotes", inPlace := ["internal/abi.NoEscape", "internal/bytealg.MakeNoZero", "internal/bytealg.Compare"], unfollowed := true, recurses := true, plainKeys := false, apart := false }
def PprNotesSaid : Prop := pprNotesRow.holds Try.pinned (OpenSpec.ofChange pprNotesSpec)

/-- ITS FALSE NEIGHBOUR: 'it returns false'. Refute it at one input. -/
def pprNotesWrong : ChangeSpec := { name := "pprNotes", fn := fun _ => fun
  | [d1, d2, d3, d4] => { results := [.lit (.bool false)], args := [d1, d2, d3, d4] }
  | _ => none }
def PprNotesWrongFalsely : Prop := pprNotesRow.holds Try.pinned (OpenSpec.ofChange pprNotesWrong)

/-- 'bevylaw06.PprErased': WHATEVER THE INPUT: true; the input reads as it did. -/
def pprErasedSpec : ChangeSpec := { name := "pprErased", fn := fun _ => fun
  | [d1, d2, d3] => { results := [.lit (.bool true)], args := [d1, d2, d3] }
  | _ => none }
def pprErasedRow : OpenClaim := { program := "ytanfnafiofkihaa", sum := "07eab643d05dc2c8865a08bbe2d4489d44c1c5ace983a8da9e1bae3cd05881dd", func := "bevy/bevylaw06.PprErased", spec := "pprErased", inPlace := ["internal/abi.NoEscape", "internal/bytealg.MakeNoZero"], unfollowed := true, recurses := true, plainKeys := false, apart := false }
def PprErasedSaid : Prop := pprErasedRow.holds Try.pinned (OpenSpec.ofChange pprErasedSpec)

/-- ITS FALSE NEIGHBOUR: 'it returns false'. Refute it at one input. -/
def pprErasedWrong : ChangeSpec := { name := "pprErased", fn := fun _ => fun
  | [d1, d2, d3] => { results := [.lit (.bool false)], args := [d1, d2, d3] }
  | _ => none }
def PprErasedWrongFalsely : Prop := pprErasedRow.holds Try.pinned (OpenSpec.ofChange pprErasedWrong)

/- THE SECOND FORM. 'bulk': how many values and letters a reading holds, each counted each time it is reached (what is shared counts as often as it is met; a slice's spare places count too). A statement '..UptoSaid' is the law's where the arguments, and the package variables that the reading takes, are together of bulk at most 1048576: NARROWER than '..Said'. Prove '..Said' where nothing that the law and all that it calls make is longer than what came in: it says more and counts as full. Else prove '..UptoSaid'. A law counts once. -/
mutual
def uptoBulk {H : Type} : DataW H → Nat
  | .lit (.string bytes) => bytes.length + 1
  | .lit _ => 1
  | .nil => 1
  | .ptr d => uptoBulk d + 1
  | .slice elems spare => uptoBulkAll elems + uptoBulkAll spare + 1
  | .agg parts => uptoBulkAll parts + 1
  | .iface _ d => uptoBulk d + 1
  | .map entries => uptoBulkEntries entries + 1
  | .held _ => 1
def uptoBulkAll {H : Type} : List (DataW H) → Nat
  | [] => 0
  | d :: r => uptoBulk d + uptoBulkAll r
def uptoBulkEntries {H : Type} : List (Lit × DataW H) → Nat
  | [] => 0
  | x :: r => uptoBulkEntry x + uptoBulkEntries r
def uptoBulkEntry {H : Type} : Lit × DataW H → Nat
  | (.string bytes, d) => bytes.length + uptoBulk d + 1
  | (_, d) => uptoBulk d + 1
 end
def uptoSmall : (H : Type) → List (DataW H) → Bool := fun _ ds => decide (uptoBulkAll ds ≤ 1048576)
def OpenSpec.upto (s : _root_.Go.ChangeSpec) : _root_.Go.OpenSpec := { _root_.Go.OpenSpec.ofChange s with cond := some uptoSmall }

/-- 'bevylaw05.PrimNotes', WHERE WHAT IT READS IS OF BULK AT MOST 1048576: true; the input reads as it did. -/
def primNotesUptoRow : OpenClaim := { program := "ytanfnafiofkihaa", sum := "07eab643d05dc2c8865a08bbe2d4489d44c1c5ace983a8da9e1bae3cd05881dd", func := "bevy/bevylaw05.PrimNotes", spec := "primNotes", inPlace := ["internal/abi.NoEscape", "internal/bytealg.MakeNoZero", "internal/bytealg.Compare"], unfollowed := true, recurses := true, plainKeys := false, apart := false, narrowed := true }
def PrimNotesUptoSaid : Prop := primNotesUptoRow.holds Try.pinned (OpenSpec.upto primNotesSpec)

/-- 'bevylaw06.PprNotes', WHERE WHAT IT READS IS OF BULK AT MOST 1048576: true; the input reads as it did. -/
def pprNotesUptoRow : OpenClaim := { program := "ytanfnafiofkihaa", sum := "07eab643d05dc2c8865a08bbe2d4489d44c1c5ace983a8da9e1bae3cd05881dd", func := "bevy/bevylaw06.PprNotes", spec := "pprNotes", inPlace := ["internal/abi.NoEscape", "internal/bytealg.MakeNoZero", "internal/bytealg.Compare"], unfollowed := true, recurses := true, plainKeys := false, apart := false, narrowed := true }
def PprNotesUptoSaid : Prop := pprNotesUptoRow.holds Try.pinned (OpenSpec.upto pprNotesSpec)

/-- 'bevylaw06.PprErased', WHERE WHAT IT READS IS OF BULK AT MOST 1048576: true; the input reads as it did. -/
def pprErasedUptoRow : OpenClaim := { program := "ytanfnafiofkihaa", sum := "07eab643d05dc2c8865a08bbe2d4489d44c1c5ace983a8da9e1bae3cd05881dd", func := "bevy/bevylaw06.PprErased", spec := "pprErased", inPlace := ["internal/abi.NoEscape", "internal/bytealg.MakeNoZero"], unfollowed := true, recurses := true, plainKeys := false, apart := false, narrowed := true }
def PprErasedUptoSaid : Prop := pprErasedUptoRow.holds Try.pinned (OpenSpec.upto pprErasedSpec)

end Rows
end Go.Proofs.Ytanfnafiofkihaa
