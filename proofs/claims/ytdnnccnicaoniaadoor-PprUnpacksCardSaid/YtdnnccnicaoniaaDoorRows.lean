/-
  NARROWER THAN 'FOR EVERY INPUT', by the rows' own cells (each row's printed sentence says how): PprPlays: laid · PprUnpacks: laid · PprTakes: laid.
  DERIVED. THE GIVEN ROWS OF THIS SEAT. 3 by the template 'for every input the law returns true; each argument reads behind the call as it read before'; 0 by the template 'total and deterministic' (their statements: YtdnnccnicaoniaaDoorTotals.lean).
  GIVEN WITH THE SEED: the statements are not yours to turn. If you find one false, say at which input.
  Laid BY PROGRAM, IN A SANDBOX (cutbox-rows.mjs): the forced cells as the released guide's own fill.sh prints them over the translation 82c8ac448bb5ce4d… (all of the seat's roots in one cut). By AI agents, Wed Nov 11 2026. No macro, syntax, notation, axiom, sorry.
-/
import Derived.Test.YtdnnccnicaoniaaDoorChecked
import GoSem.Claim
import GoSem.ClaimJoined
import GoSem.ClaimMapViews
import Derived.JoinedTies
import Derived.KernelRfl
namespace Go.Proofs.YtdnnccnicaoniaaDoor
/- THE CELL 'sum', in the pinned program and in every row, IS THE sha256 OF THE DUMP (.gsa) THAT YtdnnccnicaoniaaDoorProg.lean LOADS. Nothing in Lean hashes anything: it is a label: what it is worth is what the hold of that sum in a sandbox is worth. -/
noncomputable def Tryd.pinned : Pinned := { name := "ytdnnccnicaoniaadoor", sum := "82c8ac448bb5ce4d959d55d419d6c5127cf0a89b9f4cdd652edf47cfd7a67362", checked := Tryd.checked }
namespace Rows
def none {H : Type} : Left H := { results := [], args := [] }

/- WHAT THE LISTED PACKAGE-LEVEL VARIABLES READ AS WHEN THE CALL BEGINS. Each datum BY PROGRAM (the guide's laid-datum.mjs) off the statement by which the dump's own 'gosem.cut.vars' lays the variable. In a bare row this is a premise. The card (YtdnnccnicaoniaaDoorCards.lean) ties it to the program's text. -/
def laid_bevy_wire_bounds {H : Type} : DataW H := .agg [.lit (.int .i64 63), .lit (.int .i64 16383), .lit (.int .i64 1073741823), .lit (.int .i64 4611686018427387903)]

/-- 'bevylaw06.PprPlays': WHATEVER THE INPUT: true; the input reads as it did. -/
def pprPlaysSpec : ChangeSpec := { name := "pprPlays", fn := fun _ => fun
  | [d1, d2, d3] => { results := [.lit (.bool true)], args := [d1, d2, d3] }
  | _ => none }
def pprPlaysRow : OpenClaim := { program := "ytdnnccnicaoniaadoor", sum := "82c8ac448bb5ce4d959d55d419d6c5127cf0a89b9f4cdd652edf47cfd7a67362", func := "bevy/bevylaw06.PprPlays", spec := "pprPlays", inPlace := ["internal/abi.NoEscape", "internal/bytealg.MakeNoZero"], unfollowed := true, recurses := true, named := ["bevy/wire.bounds"], plainKeys := false, apart := false, laid := [("bevy/wire.bounds", laid_bevy_wire_bounds)] }
def PprPlaysSaid : Prop := pprPlaysRow.holds Tryd.pinned (OpenSpec.ofChange pprPlaysSpec)

/-- ITS FALSE NEIGHBOUR: 'it returns false'. Refute it at one input. -/
def pprPlaysWrong : ChangeSpec := { name := "pprPlays", fn := fun _ => fun
  | [d1, d2, d3] => { results := [.lit (.bool false)], args := [d1, d2, d3] }
  | _ => none }
def PprPlaysWrongFalsely : Prop := pprPlaysRow.holds Tryd.pinned (OpenSpec.ofChange pprPlaysWrong)

/-- 'bevylaw06.PprUnpacks': WHATEVER THE INPUT: true; the input reads as it did. -/
def pprUnpacksSpec : ChangeSpec := { name := "pprUnpacks", fn := fun _ => fun
  | [d1, d2, d3] => { results := [.lit (.bool true)], args := [d1, d2, d3] }
  | _ => none }
def pprUnpacksRow : OpenClaim := { program := "ytdnnccnicaoniaadoor", sum := "82c8ac448bb5ce4d959d55d419d6c5127cf0a89b9f4cdd652edf47cfd7a67362", func := "bevy/bevylaw06.PprUnpacks", spec := "pprUnpacks", inPlace := ["internal/abi.NoEscape", "internal/bytealg.MakeNoZero"], unfollowed := true, recurses := true, named := ["bevy/wire.bounds"], plainKeys := false, apart := false, laid := [("bevy/wire.bounds", laid_bevy_wire_bounds)] }
def PprUnpacksSaid : Prop := pprUnpacksRow.holds Tryd.pinned (OpenSpec.ofChange pprUnpacksSpec)

/-- ITS FALSE NEIGHBOUR: 'it returns false'. Refute it at one input. -/
def pprUnpacksWrong : ChangeSpec := { name := "pprUnpacks", fn := fun _ => fun
  | [d1, d2, d3] => { results := [.lit (.bool false)], args := [d1, d2, d3] }
  | _ => none }
def PprUnpacksWrongFalsely : Prop := pprUnpacksRow.holds Tryd.pinned (OpenSpec.ofChange pprUnpacksWrong)

/-- 'bevylaw06.PprTakes': WHATEVER THE INPUT: true; the input reads as it did. -/
def pprTakesSpec : ChangeSpec := { name := "pprTakes", fn := fun _ => fun
  | [d1, d2, d3] => { results := [.lit (.bool true)], args := [d1, d2, d3] }
  | _ => none }
def pprTakesRow : OpenClaim := { program := "ytdnnccnicaoniaadoor", sum := "82c8ac448bb5ce4d959d55d419d6c5127cf0a89b9f4cdd652edf47cfd7a67362", func := "bevy/bevylaw06.PprTakes", spec := "pprTakes", inPlace := ["internal/abi.NoEscape", "internal/bytealg.MakeNoZero"], unfollowed := true, recurses := true, named := ["bevy/wire.bounds"], plainKeys := false, apart := false, laid := [("bevy/wire.bounds", laid_bevy_wire_bounds)] }
def PprTakesSaid : Prop := pprTakesRow.holds Tryd.pinned (OpenSpec.ofChange pprTakesSpec)

/-- ITS FALSE NEIGHBOUR: 'it returns false'. Refute it at one input. -/
def pprTakesWrong : ChangeSpec := { name := "pprTakes", fn := fun _ => fun
  | [d1, d2, d3] => { results := [.lit (.bool false)], args := [d1, d2, d3] }
  | _ => none }
def PprTakesWrongFalsely : Prop := pprTakesRow.holds Tryd.pinned (OpenSpec.ofChange pprTakesWrong)

/- THE SECOND FORM. 'bulk': how many values and letters a reading holds, each counted each time it is reached (what is shared counts as often as it is met; a slice's spare places count too). A statement '..UptoSaid' is the law's where the arguments, and the package variables that the reading takes, are together of bulk at most 1048576: NARROWER than '..Said'. Prove '..Said' where nothing that the law and all that it calls make is longer than what came in: it says more and counts as full. Else prove '..UptoSaid'. A law counts once. -/
mutual
def uptoBulk {H : Type} : DataW H → Nat
  | .lit (.string bytes) => bytes.length + 1
  | .lit _ => 1
  | .nil => 1
  | .ptr d => uptoBulk d + 1
  | .slice elems spare => uptoBulkAll elems + uptoBulkAll spare + 1
  | .agg parts => uptoBulkAll parts + 1
  | .iface _ d => uptoBulk d + 1
  | .map entries => uptoBulkEntries entries + 1
  | .held _ => 1
def uptoBulkAll {H : Type} : List (DataW H) → Nat
  | [] => 0
  | d :: r => uptoBulk d + uptoBulkAll r
def uptoBulkEntries {H : Type} : List (Lit × DataW H) → Nat
  | [] => 0
  | x :: r => uptoBulkEntry x + uptoBulkEntries r
def uptoBulkEntry {H : Type} : Lit × DataW H → Nat
  | (.string bytes, d) => bytes.length + uptoBulk d + 1
  | (_, d) => uptoBulk d + 1
 end
def uptoSmall : (H : Type) → List (DataW H) → Bool := fun _ ds => decide (uptoBulkAll ds ≤ 1048576)
def OpenSpec.upto (s : _root_.Go.ChangeSpec) : _root_.Go.OpenSpec := { _root_.Go.OpenSpec.ofChange s with cond := some uptoSmall }

/-- 'bevylaw06.PprPlays', WHERE WHAT IT READS IS OF BULK AT MOST 1048576: true; the input reads as it did. -/
def pprPlaysUptoRow : OpenClaim := { program := "ytdnnccnicaoniaadoor", sum := "82c8ac448bb5ce4d959d55d419d6c5127cf0a89b9f4cdd652edf47cfd7a67362", func := "bevy/bevylaw06.PprPlays", spec := "pprPlays", inPlace := ["internal/abi.NoEscape", "internal/bytealg.MakeNoZero"], unfollowed := true, recurses := true, named := ["bevy/wire.bounds"], plainKeys := false, apart := false, laid := [("bevy/wire.bounds", laid_bevy_wire_bounds)], narrowed := true }
def PprPlaysUptoSaid : Prop := pprPlaysUptoRow.holds Tryd.pinned (OpenSpec.upto pprPlaysSpec)

/-- 'bevylaw06.PprUnpacks', WHERE WHAT IT READS IS OF BULK AT MOST 1048576: true; the input reads as it did. -/
def pprUnpacksUptoRow : OpenClaim := { program := "ytdnnccnicaoniaadoor", sum := "82c8ac448bb5ce4d959d55d419d6c5127cf0a89b9f4cdd652edf47cfd7a67362", func := "bevy/bevylaw06.PprUnpacks", spec := "pprUnpacks", inPlace := ["internal/abi.NoEscape", "internal/bytealg.MakeNoZero"], unfollowed := true, recurses := true, named := ["bevy/wire.bounds"], plainKeys := false, apart := false, laid := [("bevy/wire.bounds", laid_bevy_wire_bounds)], narrowed := true }
def PprUnpacksUptoSaid : Prop := pprUnpacksUptoRow.holds Tryd.pinned (OpenSpec.upto pprUnpacksSpec)

/-- 'bevylaw06.PprTakes', WHERE WHAT IT READS IS OF BULK AT MOST 1048576: true; the input reads as it did. -/
def pprTakesUptoRow : OpenClaim := { program := "ytdnnccnicaoniaadoor", sum := "82c8ac448bb5ce4d959d55d419d6c5127cf0a89b9f4cdd652edf47cfd7a67362", func := "bevy/bevylaw06.PprTakes", spec := "pprTakes", inPlace := ["internal/abi.NoEscape", "internal/bytealg.MakeNoZero"], unfollowed := true, recurses := true, named := ["bevy/wire.bounds"], plainKeys := false, apart := false, laid := [("bevy/wire.bounds", laid_bevy_wire_bounds)], narrowed := true }
def PprTakesUptoSaid : Prop := pprTakesUptoRow.holds Tryd.pinned (OpenSpec.upto pprTakesSpec)

end Rows
end Go.Proofs.YtdnnccnicaoniaaDoor
