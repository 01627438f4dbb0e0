/-
  NARROWER THAN 'FOR EVERY INPUT', by the rows' own cells (each row's printed sentence says how): WireWrites: laid · WireReads: laid · WireBack: laid · WireOne: laid · WireCut: laid · WireNil: laid · WireNumber: laid · WireText: laid.
  DERIVED. THE GIVEN ROWS OF THIS SEAT. 8 by the template 'for every input the law returns true; each argument reads behind the call as it read before'; 0 by the template 'total and deterministic' (their statements: YtbpcmfnfjbnloaaDoorTotals.lean).
  GIVEN WITH THE SEED: the statements are not yours to turn. If you find one false, say at which input.
  Laid BY PROGRAM, IN A SANDBOX (cutbox-rows.mjs): the forced cells as the released guide's own fill.sh prints them over the translation 01efa6852c5bfc00… (all of the seat's roots in one cut). By AI agents, Wed Nov 11 2026. No macro, syntax, notation, axiom, sorry.
-/
import Derived.Test.YtbpcmfnfjbnloaaDoorChecked
import GoSem.Claim
import GoSem.ClaimJoined
import GoSem.ClaimMapViews
import Derived.JoinedTies
import Derived.KernelRfl
namespace Go.Proofs.YtbpcmfnfjbnloaaDoor
/- THE CELL 'sum', in the pinned program and in every row, IS THE sha256 OF THE DUMP (.gsa) THAT YtbpcmfnfjbnloaaDoorProg.lean LOADS. Nothing in Lean hashes anything: it is a label: what it is worth is what the hold of that sum in a sandbox is worth. -/
noncomputable def Tryd.pinned : Pinned := { name := "ytbpcmfnfjbnloaadoor", sum := "01efa6852c5bfc006a462cf624aefae008278a699aacae2a118c20b13a220a2a", checked := Tryd.checked }
namespace Rows
def none {H : Type} : Left H := { results := [], args := [] }

/- WHAT THE LISTED PACKAGE-LEVEL VARIABLES READ AS WHEN THE CALL BEGINS. Each datum BY PROGRAM (the guide's laid-datum.mjs) off the statement by which the dump's own 'gosem.cut.vars' lays the variable. In a bare row this is a premise. The card (YtbpcmfnfjbnloaaDoorCards.lean) ties it to the program's text. -/
def laid_bevy_wire_bounds {H : Type} : DataW H := .agg [.lit (.int .i64 63), .lit (.int .i64 16383), .lit (.int .i64 1073741823), .lit (.int .i64 4611686018427387903)]

/-- 'bevylaw01.WireWrites': WHATEVER THE INPUT: true; the input reads as it did. -/
def wireWritesSpec : ChangeSpec := { name := "wireWrites", fn := fun _ => fun
  | [d] => { results := [.lit (.bool true)], args := [d] }
  | _ => none }
def wireWritesRow : OpenClaim := { program := "ytbpcmfnfjbnloaadoor", sum := "01efa6852c5bfc006a462cf624aefae008278a699aacae2a118c20b13a220a2a", func := "bevy/bevylaw01.WireWrites", spec := "wireWrites", named := ["bevy/wire.bounds"], apart := false, laid := [("bevy/wire.bounds", laid_bevy_wire_bounds)] }
def WireWritesSaid : Prop := wireWritesRow.holds Tryd.pinned (OpenSpec.ofChange wireWritesSpec)

/-- ITS FALSE NEIGHBOUR: 'it returns false'. Refute it at one input. -/
def wireWritesWrong : ChangeSpec := { name := "wireWrites", fn := fun _ => fun
  | [d] => { results := [.lit (.bool false)], args := [d] }
  | _ => none }
def WireWritesWrongFalsely : Prop := wireWritesRow.holds Tryd.pinned (OpenSpec.ofChange wireWritesWrong)

/-- 'bevylaw01.WireReads': WHATEVER THE INPUT: true; the input reads as it did. -/
def wireReadsSpec : ChangeSpec := { name := "wireReads", fn := fun _ => fun
  | [d1, d2] => { results := [.lit (.bool true)], args := [d1, d2] }
  | _ => none }
def wireReadsRow : OpenClaim := { program := "ytbpcmfnfjbnloaadoor", sum := "01efa6852c5bfc006a462cf624aefae008278a699aacae2a118c20b13a220a2a", func := "bevy/bevylaw01.WireReads", spec := "wireReads", named := ["bevy/wire.bounds"], apart := false, laid := [("bevy/wire.bounds", laid_bevy_wire_bounds)] }
def WireReadsSaid : Prop := wireReadsRow.holds Tryd.pinned (OpenSpec.ofChange wireReadsSpec)

/-- ITS FALSE NEIGHBOUR: 'it returns false'. Refute it at one input. -/
def wireReadsWrong : ChangeSpec := { name := "wireReads", fn := fun _ => fun
  | [d1, d2] => { results := [.lit (.bool false)], args := [d1, d2] }
  | _ => none }
def WireReadsWrongFalsely : Prop := wireReadsRow.holds Tryd.pinned (OpenSpec.ofChange wireReadsWrong)

/-- 'bevylaw01.WireBack': WHATEVER THE INPUT: true; the input reads as it did. -/
def wireBackSpec : ChangeSpec := { name := "wireBack", fn := fun _ => fun
  | [d] => { results := [.lit (.bool true)], args := [d] }
  | _ => none }
def wireBackRow : OpenClaim := { program := "ytbpcmfnfjbnloaadoor", sum := "01efa6852c5bfc006a462cf624aefae008278a699aacae2a118c20b13a220a2a", func := "bevy/bevylaw01.WireBack", spec := "wireBack", named := ["bevy/wire.bounds"], apart := false, laid := [("bevy/wire.bounds", laid_bevy_wire_bounds)] }
def WireBackSaid : Prop := wireBackRow.holds Tryd.pinned (OpenSpec.ofChange wireBackSpec)

/-- ITS FALSE NEIGHBOUR: 'it returns false'. Refute it at one input. -/
def wireBackWrong : ChangeSpec := { name := "wireBack", fn := fun _ => fun
  | [d] => { results := [.lit (.bool false)], args := [d] }
  | _ => none }
def WireBackWrongFalsely : Prop := wireBackRow.holds Tryd.pinned (OpenSpec.ofChange wireBackWrong)

/-- 'bevylaw01.WireOne': WHATEVER THE INPUT: true; the input reads as it did. -/
def wireOneSpec : ChangeSpec := { name := "wireOne", fn := fun _ => fun
  | [d1, d2] => { results := [.lit (.bool true)], args := [d1, d2] }
  | _ => none }
def wireOneRow : OpenClaim := { program := "ytbpcmfnfjbnloaadoor", sum := "01efa6852c5bfc006a462cf624aefae008278a699aacae2a118c20b13a220a2a", func := "bevy/bevylaw01.WireOne", spec := "wireOne", named := ["bevy/wire.bounds"], apart := false, laid := [("bevy/wire.bounds", laid_bevy_wire_bounds)] }
def WireOneSaid : Prop := wireOneRow.holds Tryd.pinned (OpenSpec.ofChange wireOneSpec)

/-- ITS FALSE NEIGHBOUR: 'it returns false'. Refute it at one input. -/
def wireOneWrong : ChangeSpec := { name := "wireOne", fn := fun _ => fun
  | [d1, d2] => { results := [.lit (.bool false)], args := [d1, d2] }
  | _ => none }
def WireOneWrongFalsely : Prop := wireOneRow.holds Tryd.pinned (OpenSpec.ofChange wireOneWrong)

/-- 'bevylaw01.WireCut': WHATEVER THE INPUT: true; the input reads as it did. -/
def wireCutSpec : ChangeSpec := { name := "wireCut", fn := fun _ => fun
  | [d1, d2] => { results := [.lit (.bool true)], args := [d1, d2] }
  | _ => none }
def wireCutRow : OpenClaim := { program := "ytbpcmfnfjbnloaadoor", sum := "01efa6852c5bfc006a462cf624aefae008278a699aacae2a118c20b13a220a2a", func := "bevy/bevylaw01.WireCut", spec := "wireCut", named := ["bevy/wire.bounds"], apart := false, laid := [("bevy/wire.bounds", laid_bevy_wire_bounds)] }
def WireCutSaid : Prop := wireCutRow.holds Tryd.pinned (OpenSpec.ofChange wireCutSpec)

/-- ITS FALSE NEIGHBOUR: 'it returns false'. Refute it at one input. -/
def wireCutWrong : ChangeSpec := { name := "wireCut", fn := fun _ => fun
  | [d1, d2] => { results := [.lit (.bool false)], args := [d1, d2] }
  | _ => none }
def WireCutWrongFalsely : Prop := wireCutRow.holds Tryd.pinned (OpenSpec.ofChange wireCutWrong)

/-- 'bevylaw01.WireNil': WHATEVER THE INPUT: true; the input reads as it did. -/
def wireNilSpec : ChangeSpec := { name := "wireNil", fn := fun _ => fun
  | [d1, d2] => { results := [.lit (.bool true)], args := [d1, d2] }
  | _ => none }
def wireNilRow : OpenClaim := { program := "ytbpcmfnfjbnloaadoor", sum := "01efa6852c5bfc006a462cf624aefae008278a699aacae2a118c20b13a220a2a", func := "bevy/bevylaw01.WireNil", spec := "wireNil", named := ["bevy/wire.bounds"], apart := false, laid := [("bevy/wire.bounds", laid_bevy_wire_bounds)] }
def WireNilSaid : Prop := wireNilRow.holds Tryd.pinned (OpenSpec.ofChange wireNilSpec)

/-- ITS FALSE NEIGHBOUR: 'it returns false'. Refute it at one input. -/
def wireNilWrong : ChangeSpec := { name := "wireNil", fn := fun _ => fun
  | [d1, d2] => { results := [.lit (.bool false)], args := [d1, d2] }
  | _ => none }
def WireNilWrongFalsely : Prop := wireNilRow.holds Tryd.pinned (OpenSpec.ofChange wireNilWrong)

/-- 'bevylaw01.WireNumber': WHATEVER THE INPUT: true; the input reads as it did. -/
def wireNumberSpec : ChangeSpec := { name := "wireNumber", fn := fun _ => fun
  | [d] => { results := [.lit (.bool true)], args := [d] }
  | _ => none }
def wireNumberRow : OpenClaim := { program := "ytbpcmfnfjbnloaadoor", sum := "01efa6852c5bfc006a462cf624aefae008278a699aacae2a118c20b13a220a2a", func := "bevy/bevylaw01.WireNumber", spec := "wireNumber", named := ["bevy/wire.bounds"], apart := false, laid := [("bevy/wire.bounds", laid_bevy_wire_bounds)] }
def WireNumberSaid : Prop := wireNumberRow.holds Tryd.pinned (OpenSpec.ofChange wireNumberSpec)

/-- ITS FALSE NEIGHBOUR: 'it returns false'. Refute it at one input. -/
def wireNumberWrong : ChangeSpec := { name := "wireNumber", fn := fun _ => fun
  | [d] => { results := [.lit (.bool false)], args := [d] }
  | _ => none }
def WireNumberWrongFalsely : Prop := wireNumberRow.holds Tryd.pinned (OpenSpec.ofChange wireNumberWrong)

/-- 'bevylaw01.WireText': WHATEVER THE INPUT: true; the input reads as it did. -/
def wireTextSpec : ChangeSpec := { name := "wireText", fn := fun _ => fun
  | [d] => { results := [.lit (.bool true)], args := [d] }
  | _ => none }
def wireTextRow : OpenClaim := { program := "ytbpcmfnfjbnloaadoor", sum := "01efa6852c5bfc006a462cf624aefae008278a699aacae2a118c20b13a220a2a", func := "bevy/bevylaw01.WireText", spec := "wireText", named := ["bevy/wire.bounds"], apart := false, laid := [("bevy/wire.bounds", laid_bevy_wire_bounds)] }
def WireTextSaid : Prop := wireTextRow.holds Tryd.pinned (OpenSpec.ofChange wireTextSpec)

/-- ITS FALSE NEIGHBOUR: 'it returns false'. Refute it at one input. -/
def wireTextWrong : ChangeSpec := { name := "wireText", fn := fun _ => fun
  | [d] => { results := [.lit (.bool false)], args := [d] }
  | _ => none }
def WireTextWrongFalsely : Prop := wireTextRow.holds Tryd.pinned (OpenSpec.ofChange wireTextWrong)

/- THE SECOND FORM. 'bulk': how many values and letters a reading holds, each counted each time it is reached (what is shared counts as often as it is met; a slice's spare places count too). A statement '..UptoSaid' is the law's where the arguments, and the package variables that the reading takes, are together of bulk at most 1048576: NARROWER than '..Said'. Prove '..Said' where nothing that the law and all that it calls make is longer than what came in: it says more and counts as full. Else prove '..UptoSaid'. A law counts once. -/
mutual
def uptoBulk {H : Type} : DataW H → Nat
  | .lit (.string bytes) => bytes.length + 1
  | .lit _ => 1
  | .nil => 1
  | .ptr d => uptoBulk d + 1
  | .slice elems spare => uptoBulkAll elems + uptoBulkAll spare + 1
  | .agg parts => uptoBulkAll parts + 1
  | .iface _ d => uptoBulk d + 1
  | .map entries => uptoBulkEntries entries + 1
  | .held _ => 1
def uptoBulkAll {H : Type} : List (DataW H) → Nat
  | [] => 0
  | d :: r => uptoBulk d + uptoBulkAll r
def uptoBulkEntries {H : Type} : List (Lit × DataW H) → Nat
  | [] => 0
  | x :: r => uptoBulkEntry x + uptoBulkEntries r
def uptoBulkEntry {H : Type} : Lit × DataW H → Nat
  | (.string bytes, d) => bytes.length + uptoBulk d + 1
  | (_, d) => uptoBulk d + 1
 end
def uptoSmall : (H : Type) → List (DataW H) → Bool := fun _ ds => decide (uptoBulkAll ds ≤ 1048576)
def OpenSpec.upto (s : _root_.Go.ChangeSpec) : _root_.Go.OpenSpec := { _root_.Go.OpenSpec.ofChange s with cond := some uptoSmall }

/-- 'bevylaw01.WireWrites', WHERE WHAT IT READS IS OF BULK AT MOST 1048576: true; the input reads as it did. -/
def wireWritesUptoRow : OpenClaim := { program := "ytbpcmfnfjbnloaadoor", sum := "01efa6852c5bfc006a462cf624aefae008278a699aacae2a118c20b13a220a2a", func := "bevy/bevylaw01.WireWrites", spec := "wireWrites", named := ["bevy/wire.bounds"], apart := false, laid := [("bevy/wire.bounds", laid_bevy_wire_bounds)], narrowed := true }
def WireWritesUptoSaid : Prop := wireWritesUptoRow.holds Tryd.pinned (OpenSpec.upto wireWritesSpec)

/-- 'bevylaw01.WireReads', WHERE WHAT IT READS IS OF BULK AT MOST 1048576: true; the input reads as it did. -/
def wireReadsUptoRow : OpenClaim := { program := "ytbpcmfnfjbnloaadoor", sum := "01efa6852c5bfc006a462cf624aefae008278a699aacae2a118c20b13a220a2a", func := "bevy/bevylaw01.WireReads", spec := "wireReads", named := ["bevy/wire.bounds"], apart := false, laid := [("bevy/wire.bounds", laid_bevy_wire_bounds)], narrowed := true }
def WireReadsUptoSaid : Prop := wireReadsUptoRow.holds Tryd.pinned (OpenSpec.upto wireReadsSpec)

/-- 'bevylaw01.WireBack', WHERE WHAT IT READS IS OF BULK AT MOST 1048576: true; the input reads as it did. -/
def wireBackUptoRow : OpenClaim := { program := "ytbpcmfnfjbnloaadoor", sum := "01efa6852c5bfc006a462cf624aefae008278a699aacae2a118c20b13a220a2a", func := "bevy/bevylaw01.WireBack", spec := "wireBack", named := ["bevy/wire.bounds"], apart := false, laid := [("bevy/wire.bounds", laid_bevy_wire_bounds)], narrowed := true }
def WireBackUptoSaid : Prop := wireBackUptoRow.holds Tryd.pinned (OpenSpec.upto wireBackSpec)

/-- 'bevylaw01.WireOne', WHERE WHAT IT READS IS OF BULK AT MOST 1048576: true; the input reads as it did. -/
def wireOneUptoRow : OpenClaim := { program := "ytbpcmfnfjbnloaadoor", sum := "01efa6852c5bfc006a462cf624aefae008278a699aacae2a118c20b13a220a2a", func := "bevy/bevylaw01.WireOne", spec := "wireOne", named := ["bevy/wire.bounds"], apart := false, laid := [("bevy/wire.bounds", laid_bevy_wire_bounds)], narrowed := true }
def WireOneUptoSaid : Prop := wireOneUptoRow.holds Tryd.pinned (OpenSpec.upto wireOneSpec)

/-- 'bevylaw01.WireCut', WHERE WHAT IT READS IS OF BULK AT MOST 1048576: true; the input reads as it did. -/
def wireCutUptoRow : OpenClaim := { program := "ytbpcmfnfjbnloaadoor", sum := "01efa6852c5bfc006a462cf624aefae008278a699aacae2a118c20b13a220a2a", func := "bevy/bevylaw01.WireCut", spec := "wireCut", named := ["bevy/wire.bounds"], apart := false, laid := [("bevy/wire.bounds", laid_bevy_wire_bounds)], narrowed := true }
def WireCutUptoSaid : Prop := wireCutUptoRow.holds Tryd.pinned (OpenSpec.upto wireCutSpec)

/-- 'bevylaw01.WireNil', WHERE WHAT IT READS IS OF BULK AT MOST 1048576: true; the input reads as it did. -/
def wireNilUptoRow : OpenClaim := { program := "ytbpcmfnfjbnloaadoor", sum := "01efa6852c5bfc006a462cf624aefae008278a699aacae2a118c20b13a220a2a", func := "bevy/bevylaw01.WireNil", spec := "wireNil", named := ["bevy/wire.bounds"], apart := false, laid := [("bevy/wire.bounds", laid_bevy_wire_bounds)], narrowed := true }
def WireNilUptoSaid : Prop := wireNilUptoRow.holds Tryd.pinned (OpenSpec.upto wireNilSpec)

/-- 'bevylaw01.WireNumber', WHERE WHAT IT READS IS OF BULK AT MOST 1048576: true; the input reads as it did. -/
def wireNumberUptoRow : OpenClaim := { program := "ytbpcmfnfjbnloaadoor", sum := "01efa6852c5bfc006a462cf624aefae008278a699aacae2a118c20b13a220a2a", func := "bevy/bevylaw01.WireNumber", spec := "wireNumber", named := ["bevy/wire.bounds"], apart := false, laid := [("bevy/wire.bounds", laid_bevy_wire_bounds)], narrowed := true }
def WireNumberUptoSaid : Prop := wireNumberUptoRow.holds Tryd.pinned (OpenSpec.upto wireNumberSpec)

/-- 'bevylaw01.WireText', WHERE WHAT IT READS IS OF BULK AT MOST 1048576: true; the input reads as it did. -/
def wireTextUptoRow : OpenClaim := { program := "ytbpcmfnfjbnloaadoor", sum := "01efa6852c5bfc006a462cf624aefae008278a699aacae2a118c20b13a220a2a", func := "bevy/bevylaw01.WireText", spec := "wireText", named := ["bevy/wire.bounds"], apart := false, laid := [("bevy/wire.bounds", laid_bevy_wire_bounds)], narrowed := true }
def WireTextUptoSaid : Prop := wireTextUptoRow.holds Tryd.pinned (OpenSpec.upto wireTextSpec)

end Rows
end Go.Proofs.YtbpcmfnfjbnloaaDoor
