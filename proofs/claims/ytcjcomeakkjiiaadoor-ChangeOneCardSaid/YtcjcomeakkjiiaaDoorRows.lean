/-
  NARROWER THAN 'FOR EVERY INPUT', by the rows' own cells (each row's printed sentence says how): ChangeOne: laid · ChangeReads: laid · ChangeRights: laid · ChangeOrders: laid · ChangeSigns: laid.
  DERIVED. THE GIVEN ROWS OF THIS SEAT. 5 by the template 'for every input the law returns true; each argument reads behind the call as it read before'; 0 by the template 'total and deterministic' (their statements: YtcjcomeakkjiiaaDoorTotals.lean).
  GIVEN WITH THE SEED: the statements are not yours to turn. If you find one false, say at which input.
  Laid BY PROGRAM, IN A SANDBOX (cutbox-rows.mjs): the forced cells as the released guide's own fill.sh prints them over the translation 54f466f409755487… (all of the seat's roots in one cut). By AI agents, Wed Nov 11 2026. No macro, syntax, notation, axiom, sorry.
-/
import Derived.Test.YtcjcomeakkjiiaaDoorChecked
import GoSem.Claim
import GoSem.ClaimJoined
import GoSem.ClaimMapViews
import Derived.JoinedTies
import Derived.KernelRfl
namespace Go.Proofs.YtcjcomeakkjiiaaDoor
/- THE CELL 'sum', in the pinned program and in every row, IS THE sha256 OF THE DUMP (.gsa) THAT YtcjcomeakkjiiaaDoorProg.lean LOADS. Nothing in Lean hashes anything: it is a label: what it is worth is what the hold of that sum in a sandbox is worth. -/
noncomputable def Tryd.pinned : Pinned := { name := "ytcjcomeakkjiiaadoor", sum := "54f466f4097554871f85bca3bdc42f026ef697c19fac2bfcd26d58687b82addc", checked := Tryd.checked }
namespace Rows
def none {H : Type} : Left H := { results := [], args := [] }

/- WHAT THE LISTED PACKAGE-LEVEL VARIABLES READ AS WHEN THE CALL BEGINS. Each datum BY PROGRAM (the guide's laid-datum.mjs) off the statement by which the dump's own 'gosem.cut.vars' lays the variable. In a bare row this is a premise. The card (YtcjcomeakkjiiaaDoorCards.lean) ties it to the program's text. -/
def laid_bevy_wire_bounds {H : Type} : DataW H := .agg [.lit (.int .i64 63), .lit (.int .i64 16383), .lit (.int .i64 1073741823), .lit (.int .i64 4611686018427387903)]

/-- 'bevylaw10.ChangeOne': WHATEVER THE INPUT: true; the input reads as it did. -/
def changeOneSpec : ChangeSpec := { name := "changeOne", fn := fun _ => fun
  | [d1, d2, d3, d4] => { results := [.lit (.bool true)], args := [d1, d2, d3, d4] }
  | _ => none }
def changeOneRow : OpenClaim := { program := "ytcjcomeakkjiiaadoor", sum := "54f466f4097554871f85bca3bdc42f026ef697c19fac2bfcd26d58687b82addc", func := "bevy/bevylaw10.ChangeOne", spec := "changeOne", inPlace := ["internal/abi.NoEscape", "internal/bytealg.MakeNoZero"], unfollowed := true, recurses := true, named := ["bevy/wire.bounds"], apart := false, laid := [("bevy/wire.bounds", laid_bevy_wire_bounds)] }
def ChangeOneSaid : Prop := changeOneRow.holds Tryd.pinned (OpenSpec.ofChange changeOneSpec)

/-- ITS FALSE NEIGHBOUR: 'it returns false'. Refute it at one input. -/
def changeOneWrong : ChangeSpec := { name := "changeOne", fn := fun _ => fun
  | [d1, d2, d3, d4] => { results := [.lit (.bool false)], args := [d1, d2, d3, d4] }
  | _ => none }
def ChangeOneWrongFalsely : Prop := changeOneRow.holds Tryd.pinned (OpenSpec.ofChange changeOneWrong)

/-- 'bevylaw10.ChangeReads': WHATEVER THE INPUT: true; the input reads as it did. -/
def changeReadsSpec : ChangeSpec := { name := "changeReads", fn := fun _ => fun
  | [d] => { results := [.lit (.bool true)], args := [d] }
  | _ => none }
def changeReadsRow : OpenClaim := { program := "ytcjcomeakkjiiaadoor", sum := "54f466f4097554871f85bca3bdc42f026ef697c19fac2bfcd26d58687b82addc", func := "bevy/bevylaw10.ChangeReads", spec := "changeReads", inPlace := ["internal/abi.NoEscape", "internal/bytealg.MakeNoZero"], unfollowed := true, recurses := true, named := ["bevy/wire.bounds"], apart := false, laid := [("bevy/wire.bounds", laid_bevy_wire_bounds)] }
def ChangeReadsSaid : Prop := changeReadsRow.holds Tryd.pinned (OpenSpec.ofChange changeReadsSpec)

/-- ITS FALSE NEIGHBOUR: 'it returns false'. Refute it at one input. -/
def changeReadsWrong : ChangeSpec := { name := "changeReads", fn := fun _ => fun
  | [d] => { results := [.lit (.bool false)], args := [d] }
  | _ => none }
def ChangeReadsWrongFalsely : Prop := changeReadsRow.holds Tryd.pinned (OpenSpec.ofChange changeReadsWrong)

/-- 'bevylaw10.ChangeRights': WHATEVER THE INPUT: true; the input reads as it did. -/
def changeRightsSpec : ChangeSpec := { name := "changeRights", fn := fun _ => fun
  | [d] => { results := [.lit (.bool true)], args := [d] }
  | _ => none }
def changeRightsRow : OpenClaim := { program := "ytcjcomeakkjiiaadoor", sum := "54f466f4097554871f85bca3bdc42f026ef697c19fac2bfcd26d58687b82addc", func := "bevy/bevylaw10.ChangeRights", spec := "changeRights", inPlace := ["internal/abi.NoEscape", "internal/bytealg.MakeNoZero"], named := ["bevy/wire.bounds"], apart := false, laid := [("bevy/wire.bounds", laid_bevy_wire_bounds)] }
def ChangeRightsSaid : Prop := changeRightsRow.holds Tryd.pinned (OpenSpec.ofChange changeRightsSpec)

/-- ITS FALSE NEIGHBOUR: 'it returns false'. Refute it at one input. -/
def changeRightsWrong : ChangeSpec := { name := "changeRights", fn := fun _ => fun
  | [d] => { results := [.lit (.bool false)], args := [d] }
  | _ => none }
def ChangeRightsWrongFalsely : Prop := changeRightsRow.holds Tryd.pinned (OpenSpec.ofChange changeRightsWrong)

/-- 'bevylaw10.ChangeOrders': WHATEVER THE INPUT: true; the input reads as it did. -/
def changeOrdersSpec : ChangeSpec := { name := "changeOrders", fn := fun _ => fun
  | [d1, d2, d3] => { results := [.lit (.bool true)], args := [d1, d2, d3] }
  | _ => none }
def changeOrdersRow : OpenClaim := { program := "ytcjcomeakkjiiaadoor", sum := "54f466f4097554871f85bca3bdc42f026ef697c19fac2bfcd26d58687b82addc", func := "bevy/bevylaw10.ChangeOrders", spec := "changeOrders", inPlace := ["internal/abi.NoEscape", "internal/bytealg.MakeNoZero"], named := ["bevy/wire.bounds"], apart := false, laid := [("bevy/wire.bounds", laid_bevy_wire_bounds)] }
def ChangeOrdersSaid : Prop := changeOrdersRow.holds Tryd.pinned (OpenSpec.ofChange changeOrdersSpec)

/-- ITS FALSE NEIGHBOUR: 'it returns false'. Refute it at one input. -/
def changeOrdersWrong : ChangeSpec := { name := "changeOrders", fn := fun _ => fun
  | [d1, d2, d3] => { results := [.lit (.bool false)], args := [d1, d2, d3] }
  | _ => none }
def ChangeOrdersWrongFalsely : Prop := changeOrdersRow.holds Tryd.pinned (OpenSpec.ofChange changeOrdersWrong)

/-- 'bevylaw10.ChangeSigns': WHATEVER THE INPUT: true; the input reads as it did. -/
def changeSignsSpec : ChangeSpec := { name := "changeSigns", fn := fun _ => fun
  | [d1, d2, d3] => { results := [.lit (.bool true)], args := [d1, d2, d3] }
  | _ => none }
def changeSignsRow : OpenClaim := { program := "ytcjcomeakkjiiaadoor", sum := "54f466f4097554871f85bca3bdc42f026ef697c19fac2bfcd26d58687b82addc", func := "bevy/bevylaw10.ChangeSigns", spec := "changeSigns", inPlace := ["internal/abi.NoEscape", "internal/bytealg.MakeNoZero"], named := ["bevy/wire.bounds"], apart := false, laid := [("bevy/wire.bounds", laid_bevy_wire_bounds)] }
def ChangeSignsSaid : Prop := changeSignsRow.holds Tryd.pinned (OpenSpec.ofChange changeSignsSpec)

/-- ITS FALSE NEIGHBOUR: 'it returns false'. Refute it at one input. -/
def changeSignsWrong : ChangeSpec := { name := "changeSigns", fn := fun _ => fun
  | [d1, d2, d3] => { results := [.lit (.bool false)], args := [d1, d2, d3] }
  | _ => none }
def ChangeSignsWrongFalsely : Prop := changeSignsRow.holds Tryd.pinned (OpenSpec.ofChange changeSignsWrong)

/- THE SECOND FORM. 'bulk': how many values and letters a reading holds, each counted each time it is reached (what is shared counts as often as it is met; a slice's spare places count too). A statement '..UptoSaid' is the law's where the arguments, and the package variables that the reading takes, are together of bulk at most 1048576: NARROWER than '..Said'. Prove '..Said' where nothing that the law and all that it calls make is longer than what came in: it says more and counts as full. Else prove '..UptoSaid'. A law counts once. -/
mutual
def uptoBulk {H : Type} : DataW H → Nat
  | .lit (.string bytes) => bytes.length + 1
  | .lit _ => 1
  | .nil => 1
  | .ptr d => uptoBulk d + 1
  | .slice elems spare => uptoBulkAll elems + uptoBulkAll spare + 1
  | .agg parts => uptoBulkAll parts + 1
  | .iface _ d => uptoBulk d + 1
  | .map entries => uptoBulkEntries entries + 1
  | .held _ => 1
def uptoBulkAll {H : Type} : List (DataW H) → Nat
  | [] => 0
  | d :: r => uptoBulk d + uptoBulkAll r
def uptoBulkEntries {H : Type} : List (Lit × DataW H) → Nat
  | [] => 0
  | x :: r => uptoBulkEntry x + uptoBulkEntries r
def uptoBulkEntry {H : Type} : Lit × DataW H → Nat
  | (.string bytes, d) => bytes.length + uptoBulk d + 1
  | (_, d) => uptoBulk d + 1
 end
def uptoSmall : (H : Type) → List (DataW H) → Bool := fun _ ds => decide (uptoBulkAll ds ≤ 1048576)
def OpenSpec.upto (s : _root_.Go.ChangeSpec) : _root_.Go.OpenSpec := { _root_.Go.OpenSpec.ofChange s with cond := some uptoSmall }

/-- 'bevylaw10.ChangeOne', WHERE WHAT IT READS IS OF BULK AT MOST 1048576: true; the input reads as it did. -/
def changeOneUptoRow : OpenClaim := { program := "ytcjcomeakkjiiaadoor", sum := "54f466f4097554871f85bca3bdc42f026ef697c19fac2bfcd26d58687b82addc", func := "bevy/bevylaw10.ChangeOne", spec := "changeOne", inPlace := ["internal/abi.NoEscape", "internal/bytealg.MakeNoZero"], unfollowed := true, recurses := true, named := ["bevy/wire.bounds"], apart := false, laid := [("bevy/wire.bounds", laid_bevy_wire_bounds)], narrowed := true }
def ChangeOneUptoSaid : Prop := changeOneUptoRow.holds Tryd.pinned (OpenSpec.upto changeOneSpec)

/-- 'bevylaw10.ChangeReads', WHERE WHAT IT READS IS OF BULK AT MOST 1048576: true; the input reads as it did. -/
def changeReadsUptoRow : OpenClaim := { program := "ytcjcomeakkjiiaadoor", sum := "54f466f4097554871f85bca3bdc42f026ef697c19fac2bfcd26d58687b82addc", func := "bevy/bevylaw10.ChangeReads", spec := "changeReads", inPlace := ["internal/abi.NoEscape", "internal/bytealg.MakeNoZero"], unfollowed := true, recurses := true, named := ["bevy/wire.bounds"], apart := false, laid := [("bevy/wire.bounds", laid_bevy_wire_bounds)], narrowed := true }
def ChangeReadsUptoSaid : Prop := changeReadsUptoRow.holds Tryd.pinned (OpenSpec.upto changeReadsSpec)

/-- 'bevylaw10.ChangeRights', WHERE WHAT IT READS IS OF BULK AT MOST 1048576: true; the input reads as it did. -/
def changeRightsUptoRow : OpenClaim := { program := "ytcjcomeakkjiiaadoor", sum := "54f466f4097554871f85bca3bdc42f026ef697c19fac2bfcd26d58687b82addc", func := "bevy/bevylaw10.ChangeRights", spec := "changeRights", inPlace := ["internal/abi.NoEscape", "internal/bytealg.MakeNoZero"], named := ["bevy/wire.bounds"], apart := false, laid := [("bevy/wire.bounds", laid_bevy_wire_bounds)], narrowed := true }
def ChangeRightsUptoSaid : Prop := changeRightsUptoRow.holds Tryd.pinned (OpenSpec.upto changeRightsSpec)

/-- 'bevylaw10.ChangeOrders', WHERE WHAT IT READS IS OF BULK AT MOST 1048576: true; the input reads as it did. -/
def changeOrdersUptoRow : OpenClaim := { program := "ytcjcomeakkjiiaadoor", sum := "54f466f4097554871f85bca3bdc42f026ef697c19fac2bfcd26d58687b82addc", func := "bevy/bevylaw10.ChangeOrders", spec := "changeOrders", inPlace := ["internal/abi.NoEscape", "internal/bytealg.MakeNoZero"], named := ["bevy/wire.bounds"], apart := false, laid := [("bevy/wire.bounds", laid_bevy_wire_bounds)], narrowed := true }
def ChangeOrdersUptoSaid : Prop := changeOrdersUptoRow.holds Tryd.pinned (OpenSpec.upto changeOrdersSpec)

/-- 'bevylaw10.ChangeSigns', WHERE WHAT IT READS IS OF BULK AT MOST 1048576: true; the input reads as it did. -/
def changeSignsUptoRow : OpenClaim := { program := "ytcjcomeakkjiiaadoor", sum := "54f466f4097554871f85bca3bdc42f026ef697c19fac2bfcd26d58687b82addc", func := "bevy/bevylaw10.ChangeSigns", spec := "changeSigns", inPlace := ["internal/abi.NoEscape", "internal/bytealg.MakeNoZero"], named := ["bevy/wire.bounds"], apart := false, laid := [("bevy/wire.bounds", laid_bevy_wire_bounds)], narrowed := true }
def ChangeSignsUptoSaid : Prop := changeSignsUptoRow.holds Tryd.pinned (OpenSpec.upto changeSignsSpec)

end Rows
end Go.Proofs.YtcjcomeakkjiiaaDoor
