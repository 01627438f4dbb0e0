/-
  NARROWER THAN 'FOR EVERY INPUT', by the rows' own cells (each row's printed sentence says how): ChangeNames: laid · ChangeFits: laid · ChangePicks: laid · ChangeApplies: laid.
  DERIVED. THE GIVEN ROWS OF THIS SEAT. 4 by the template 'for every input the law returns true; each argument reads behind the call as it read before'; 0 by the template 'total and deterministic' (their statements: YtinebhdilnndaaaGreatDoorTotals.lean).
  GIVEN WITH THE SEED: the statements are not yours to turn. If you find one false, say at which input.
  Laid BY PROGRAM, IN A SANDBOX (cutbox-rows.mjs): the forced cells as the released guide's own fill.sh prints them over the translation 738e6e186cc0cf91… (all of the seat's roots in one cut). By AI agents, Wed Nov 11 2026. No macro, syntax, notation, axiom, sorry.
-/
import Derived.Test.YtinebhdilnndaaaGreatDoorChecked
import GoSem.Claim
import GoSem.ClaimJoined
import GoSem.ClaimMapViews
import Derived.JoinedTies
import Derived.KernelRfl
namespace Go.Proofs.YtinebhdilnndaaaGreatDoor
/- THE CELL 'sum', in the pinned program and in every row, IS THE sha256 OF THE DUMP (.gsa) THAT YtinebhdilnndaaaGreatDoorProg.lean LOADS. Nothing in Lean hashes anything: it is a label: what it is worth is what the hold of that sum in a sandbox is worth. -/
noncomputable def Tryz.pinned : Pinned := { name := "ytinebhdilnndaaagreatdoor", sum := "738e6e186cc0cf91001dd782a02478a228086f17389c8fbd7e455ac807964ea3", checked := Tryz.checked }
namespace Rows
def none {H : Type} : Left H := { results := [], args := [] }

/- WHAT THE LISTED PACKAGE-LEVEL VARIABLES READ AS WHEN THE CALL BEGINS. Each datum BY PROGRAM (the guide's laid-datum.mjs) off the statement by which the dump's own 'gosem.cut.vars' lays the variable. In a bare row this is a premise. The card (YtinebhdilnndaaaGreatDoorCards.lean) ties it to the program's text. -/
def laid_bevy_wire_bounds {H : Type} : DataW H := .agg [.lit (.int .i64 63), .lit (.int .i64 16383), .lit (.int .i64 1073741823), .lit (.int .i64 4611686018427387903)]

/-- 'bevylaw10.ChangeNames': WHATEVER THE INPUT: true; the input reads as it did. -/
def changeNamesSpec : ChangeSpec := { name := "changeNames", fn := fun _ => fun
  | [d1, d2] => { results := [.lit (.bool true)], args := [d1, d2] }
  | _ => none }
def changeNamesRow : OpenClaim := { program := "ytinebhdilnndaaagreatdoor", sum := "738e6e186cc0cf91001dd782a02478a228086f17389c8fbd7e455ac807964ea3", func := "bevy/bevylaw10.ChangeNames", spec := "changeNames", inPlace := ["internal/abi.NoEscape", "internal/bytealg.MakeNoZero", "slices.overlaps[int]"], unfollowed := true, recurses := true, named := ["bevy/wire.bounds"], apart := false, laid := [("bevy/wire.bounds", laid_bevy_wire_bounds)] }
def ChangeNamesSaid : Prop := changeNamesRow.holds Tryz.pinned (OpenSpec.ofChange changeNamesSpec)

/-- ITS FALSE NEIGHBOUR: 'it returns false'. Refute it at one input. -/
def changeNamesWrong : ChangeSpec := { name := "changeNames", fn := fun _ => fun
  | [d1, d2] => { results := [.lit (.bool false)], args := [d1, d2] }
  | _ => none }
def ChangeNamesWrongFalsely : Prop := changeNamesRow.holds Tryz.pinned (OpenSpec.ofChange changeNamesWrong)

/-- 'bevylaw10.ChangeFits': WHATEVER THE INPUT: true; the input reads as it did. -/
def changeFitsSpec : ChangeSpec := { name := "changeFits", fn := fun _ => fun
  | [d1, d2] => { results := [.lit (.bool true)], args := [d1, d2] }
  | _ => none }
def changeFitsRow : OpenClaim := { program := "ytinebhdilnndaaagreatdoor", sum := "738e6e186cc0cf91001dd782a02478a228086f17389c8fbd7e455ac807964ea3", func := "bevy/bevylaw10.ChangeFits", spec := "changeFits", inPlace := ["internal/abi.NoEscape", "internal/bytealg.MakeNoZero", "slices.overlaps[int]"], unfollowed := true, recurses := true, named := ["bevy/wire.bounds"], apart := false, laid := [("bevy/wire.bounds", laid_bevy_wire_bounds)] }
def ChangeFitsSaid : Prop := changeFitsRow.holds Tryz.pinned (OpenSpec.ofChange changeFitsSpec)

/-- ITS FALSE NEIGHBOUR: 'it returns false'. Refute it at one input. -/
def changeFitsWrong : ChangeSpec := { name := "changeFits", fn := fun _ => fun
  | [d1, d2] => { results := [.lit (.bool false)], args := [d1, d2] }
  | _ => none }
def ChangeFitsWrongFalsely : Prop := changeFitsRow.holds Tryz.pinned (OpenSpec.ofChange changeFitsWrong)

/-- 'bevylaw10.ChangePicks': WHATEVER THE INPUT: true; the input reads as it did. -/
def changePicksSpec : ChangeSpec := { name := "changePicks", fn := fun _ => fun
  | [d1, d2] => { results := [.lit (.bool true)], args := [d1, d2] }
  | _ => none }
def changePicksRow : OpenClaim := { program := "ytinebhdilnndaaagreatdoor", sum := "738e6e186cc0cf91001dd782a02478a228086f17389c8fbd7e455ac807964ea3", func := "bevy/bevylaw10.ChangePicks", spec := "changePicks", inPlace := ["internal/abi.NoEscape", "internal/bytealg.MakeNoZero", "internal/bytealg.Compare", "slices.overlaps[int]"], unfollowed := true, recurses := true, named := ["bevy/wire.bounds"], apart := false, laid := [("bevy/wire.bounds", laid_bevy_wire_bounds)] }
def ChangePicksSaid : Prop := changePicksRow.holds Tryz.pinned (OpenSpec.ofChange changePicksSpec)

/-- ITS FALSE NEIGHBOUR: 'it returns false'. Refute it at one input. -/
def changePicksWrong : ChangeSpec := { name := "changePicks", fn := fun _ => fun
  | [d1, d2] => { results := [.lit (.bool false)], args := [d1, d2] }
  | _ => none }
def ChangePicksWrongFalsely : Prop := changePicksRow.holds Tryz.pinned (OpenSpec.ofChange changePicksWrong)

/-- 'bevylaw10.ChangeApplies': WHATEVER THE INPUT: true; the input reads as it did. -/
def changeAppliesSpec : ChangeSpec := { name := "changeApplies", fn := fun _ => fun
  | [d1, d2] => { results := [.lit (.bool true)], args := [d1, d2] }
  | _ => none }
def changeAppliesRow : OpenClaim := { program := "ytinebhdilnndaaagreatdoor", sum := "738e6e186cc0cf91001dd782a02478a228086f17389c8fbd7e455ac807964ea3", func := "bevy/bevylaw10.ChangeApplies", spec := "changeApplies", inPlace := ["internal/abi.NoEscape", "internal/bytealg.MakeNoZero", "slices.overlaps[int]"], unfollowed := true, recurses := true, named := ["bevy/wire.bounds"], apart := false, laid := [("bevy/wire.bounds", laid_bevy_wire_bounds)] }
def ChangeAppliesSaid : Prop := changeAppliesRow.holds Tryz.pinned (OpenSpec.ofChange changeAppliesSpec)

/-- ITS FALSE NEIGHBOUR: 'it returns false'. Refute it at one input. -/
def changeAppliesWrong : ChangeSpec := { name := "changeApplies", fn := fun _ => fun
  | [d1, d2] => { results := [.lit (.bool false)], args := [d1, d2] }
  | _ => none }
def ChangeAppliesWrongFalsely : Prop := changeAppliesRow.holds Tryz.pinned (OpenSpec.ofChange changeAppliesWrong)

/- THE SECOND FORM. 'bulk': how many values and letters a reading holds, each counted each time it is reached (what is shared counts as often as it is met; a slice's spare places count too). A statement '..UptoSaid' is the law's where the arguments, and the package variables that the reading takes, are together of bulk at most 1048576: NARROWER than '..Said'. Prove '..Said' where nothing that the law and all that it calls make is longer than what came in: it says more and counts as full. Else prove '..UptoSaid'. A law counts once. -/
mutual
def uptoBulk {H : Type} : DataW H → Nat
  | .lit (.string bytes) => bytes.length + 1
  | .lit _ => 1
  | .nil => 1
  | .ptr d => uptoBulk d + 1
  | .slice elems spare => uptoBulkAll elems + uptoBulkAll spare + 1
  | .agg parts => uptoBulkAll parts + 1
  | .iface _ d => uptoBulk d + 1
  | .map entries => uptoBulkEntries entries + 1
  | .held _ => 1
def uptoBulkAll {H : Type} : List (DataW H) → Nat
  | [] => 0
  | d :: r => uptoBulk d + uptoBulkAll r
def uptoBulkEntries {H : Type} : List (Lit × DataW H) → Nat
  | [] => 0
  | x :: r => uptoBulkEntry x + uptoBulkEntries r
def uptoBulkEntry {H : Type} : Lit × DataW H → Nat
  | (.string bytes, d) => bytes.length + uptoBulk d + 1
  | (_, d) => uptoBulk d + 1
 end
def uptoSmall : (H : Type) → List (DataW H) → Bool := fun _ ds => decide (uptoBulkAll ds ≤ 1048576)
def OpenSpec.upto (s : _root_.Go.ChangeSpec) : _root_.Go.OpenSpec := { _root_.Go.OpenSpec.ofChange s with cond := some uptoSmall }

/-- 'bevylaw10.ChangeNames', WHERE WHAT IT READS IS OF BULK AT MOST 1048576: true; the input reads as it did. -/
def changeNamesUptoRow : OpenClaim := { program := "ytinebhdilnndaaagreatdoor", sum := "738e6e186cc0cf91001dd782a02478a228086f17389c8fbd7e455ac807964ea3", func := "bevy/bevylaw10.ChangeNames", spec := "changeNames", inPlace := ["internal/abi.NoEscape", "internal/bytealg.MakeNoZero", "slices.overlaps[int]"], unfollowed := true, recurses := true, named := ["bevy/wire.bounds"], apart := false, laid := [("bevy/wire.bounds", laid_bevy_wire_bounds)], narrowed := true }
def ChangeNamesUptoSaid : Prop := changeNamesUptoRow.holds Tryz.pinned (OpenSpec.upto changeNamesSpec)

/-- 'bevylaw10.ChangeFits', WHERE WHAT IT READS IS OF BULK AT MOST 1048576: true; the input reads as it did. -/
def changeFitsUptoRow : OpenClaim := { program := "ytinebhdilnndaaagreatdoor", sum := "738e6e186cc0cf91001dd782a02478a228086f17389c8fbd7e455ac807964ea3", func := "bevy/bevylaw10.ChangeFits", spec := "changeFits", inPlace := ["internal/abi.NoEscape", "internal/bytealg.MakeNoZero", "slices.overlaps[int]"], unfollowed := true, recurses := true, named := ["bevy/wire.bounds"], apart := false, laid := [("bevy/wire.bounds", laid_bevy_wire_bounds)], narrowed := true }
def ChangeFitsUptoSaid : Prop := changeFitsUptoRow.holds Tryz.pinned (OpenSpec.upto changeFitsSpec)

/-- 'bevylaw10.ChangePicks', WHERE WHAT IT READS IS OF BULK AT MOST 1048576: true; the input reads as it did. -/
def changePicksUptoRow : OpenClaim := { program := "ytinebhdilnndaaagreatdoor", sum := "738e6e186cc0cf91001dd782a02478a228086f17389c8fbd7e455ac807964ea3", func := "bevy/bevylaw10.ChangePicks", spec := "changePicks", inPlace := ["internal/abi.NoEscape", "internal/bytealg.MakeNoZero", "internal/bytealg.Compare", "slices.overlaps[int]"], unfollowed := true, recurses := true, named := ["bevy/wire.bounds"], apart := false, laid := [("bevy/wire.bounds", laid_bevy_wire_bounds)], narrowed := true }
def ChangePicksUptoSaid : Prop := changePicksUptoRow.holds Tryz.pinned (OpenSpec.upto changePicksSpec)

/-- 'bevylaw10.ChangeApplies', WHERE WHAT IT READS IS OF BULK AT MOST 1048576: true; the input reads as it did. -/
def changeAppliesUptoRow : OpenClaim := { program := "ytinebhdilnndaaagreatdoor", sum := "738e6e186cc0cf91001dd782a02478a228086f17389c8fbd7e455ac807964ea3", func := "bevy/bevylaw10.ChangeApplies", spec := "changeApplies", inPlace := ["internal/abi.NoEscape", "internal/bytealg.MakeNoZero", "slices.overlaps[int]"], unfollowed := true, recurses := true, named := ["bevy/wire.bounds"], apart := false, laid := [("bevy/wire.bounds", laid_bevy_wire_bounds)], narrowed := true }
def ChangeAppliesUptoSaid : Prop := changeAppliesUptoRow.holds Tryz.pinned (OpenSpec.upto changeAppliesSpec)

end Rows
end Go.Proofs.YtinebhdilnndaaaGreatDoor
