/-
  NARROWER THAN 'FOR EVERY INPUT', by the rows' own cells (each row's printed sentence says how): KeysMakes: laid · KeysSaid: laid · KeysNotes: laid · KeysSpots: laid · KeysTags: laid · KeysRoots: laid.
  DERIVED. THE GIVEN ROWS OF THIS SEAT. 6 by the template 'for every input the law returns true; each argument reads behind the call as it read before'; 0 by the template 'total and deterministic' (their statements: YtdfbmijbmlainaaDoorTotals.lean).
  GIVEN WITH THE SEED: the statements are not yours to turn. If you find one false, say at which input.
  Laid BY PROGRAM, IN A SANDBOX (cutbox-rows.mjs): the forced cells as the released guide's own fill.sh prints them over the translation 64aebea4cb8cf90d… (all of the seat's roots in one cut). By AI agents, Wed Nov 11 2026. No macro, syntax, notation, axiom, sorry.
-/
import Derived.Test.YtdfbmijbmlainaaDoorChecked
import GoSem.Claim
import GoSem.ClaimJoined
import GoSem.ClaimMapViews
import Derived.JoinedTies
import Derived.KernelRfl
namespace Go.Proofs.YtdfbmijbmlainaaDoor
/- THE CELL 'sum', in the pinned program and in every row, IS THE sha256 OF THE DUMP (.gsa) THAT YtdfbmijbmlainaaDoorProg.lean LOADS. Nothing in Lean hashes anything: it is a label: what it is worth is what the hold of that sum in a sandbox is worth. -/
noncomputable def Tryd.pinned : Pinned := { name := "ytdfbmijbmlainaadoor", sum := "64aebea4cb8cf90d1d04fa98cdefd6139746b38c858e10b39cc9fc1799b45f66", checked := Tryd.checked }
namespace Rows
def none {H : Type} : Left H := { results := [], args := [] }

/- WHAT THE LISTED PACKAGE-LEVEL VARIABLES READ AS WHEN THE CALL BEGINS. Each datum BY PROGRAM (the guide's laid-datum.mjs) off the statement by which the dump's own 'gosem.cut.vars' lays the variable. In a bare row this is a premise. The card (YtdfbmijbmlainaaDoorCards.lean) ties it to the program's text. -/
def laid_bevy_wire_bounds {H : Type} : DataW H := .agg [.lit (.int .i64 63), .lit (.int .i64 16383), .lit (.int .i64 1073741823), .lit (.int .i64 4611686018427387903)]

/-- 'bevylaw11.KeysMakes': WHATEVER THE INPUT: true; the input reads as it did. -/
def keysMakesSpec : ChangeSpec := { name := "keysMakes", fn := fun _ => fun
  | [d1, d2, d3] => { results := [.lit (.bool true)], args := [d1, d2, d3] }
  | _ => none }
def keysMakesRow : OpenClaim := { program := "ytdfbmijbmlainaadoor", sum := "64aebea4cb8cf90d1d04fa98cdefd6139746b38c858e10b39cc9fc1799b45f66", func := "bevy/bevylaw11.KeysMakes", spec := "keysMakes", inPlace := ["internal/abi.NoEscape", "internal/bytealg.MakeNoZero"], named := ["bevy/wire.bounds"], plainKeys := false, apart := false, laid := [("bevy/wire.bounds", laid_bevy_wire_bounds)] }
def KeysMakesSaid : Prop := keysMakesRow.holds Tryd.pinned (OpenSpec.ofChange keysMakesSpec)

/-- ITS FALSE NEIGHBOUR: 'it returns false'. Refute it at one input. -/
def keysMakesWrong : ChangeSpec := { name := "keysMakes", fn := fun _ => fun
  | [d1, d2, d3] => { results := [.lit (.bool false)], args := [d1, d2, d3] }
  | _ => none }
def KeysMakesWrongFalsely : Prop := keysMakesRow.holds Tryd.pinned (OpenSpec.ofChange keysMakesWrong)

/-- 'bevylaw11.KeysSaid': WHATEVER THE INPUT: true; the input reads as it did. -/
def keysSaidSpec : ChangeSpec := { name := "keysSaid", fn := fun _ => fun
  | [d1, d2, d3, d4, d5] => { results := [.lit (.bool true)], args := [d1, d2, d3, d4, d5] }
  | _ => none }
def keysSaidRow : OpenClaim := { program := "ytdfbmijbmlainaadoor", sum := "64aebea4cb8cf90d1d04fa98cdefd6139746b38c858e10b39cc9fc1799b45f66", func := "bevy/bevylaw11.KeysSaid", spec := "keysSaid", inPlace := ["internal/abi.NoEscape", "internal/bytealg.MakeNoZero"], named := ["bevy/wire.bounds"], plainKeys := false, apart := false, laid := [("bevy/wire.bounds", laid_bevy_wire_bounds)] }
def KeysSaidSaid : Prop := keysSaidRow.holds Tryd.pinned (OpenSpec.ofChange keysSaidSpec)

/-- ITS FALSE NEIGHBOUR: 'it returns false'. Refute it at one input. -/
def keysSaidWrong : ChangeSpec := { name := "keysSaid", fn := fun _ => fun
  | [d1, d2, d3, d4, d5] => { results := [.lit (.bool false)], args := [d1, d2, d3, d4, d5] }
  | _ => none }
def KeysSaidWrongFalsely : Prop := keysSaidRow.holds Tryd.pinned (OpenSpec.ofChange keysSaidWrong)

/-- 'bevylaw11.KeysNotes': WHATEVER THE INPUT: true; the input reads as it did. -/
def keysNotesSpec : ChangeSpec := { name := "keysNotes", fn := fun _ => fun
  | [d1, d2, d3, d4] => { results := [.lit (.bool true)], args := [d1, d2, d3, d4] }
  | _ => none }
def keysNotesRow : OpenClaim := { program := "ytdfbmijbmlainaadoor", sum := "64aebea4cb8cf90d1d04fa98cdefd6139746b38c858e10b39cc9fc1799b45f66", func := "bevy/bevylaw11.KeysNotes", spec := "keysNotes", inPlace := ["internal/abi.NoEscape", "internal/bytealg.MakeNoZero", "internal/bytealg.Compare"], unfollowed := true, recurses := true, named := ["bevy/wire.bounds"], plainKeys := false, apart := false, laid := [("bevy/wire.bounds", laid_bevy_wire_bounds)] }
def KeysNotesSaid : Prop := keysNotesRow.holds Tryd.pinned (OpenSpec.ofChange keysNotesSpec)

/-- ITS FALSE NEIGHBOUR: 'it returns false'. Refute it at one input. -/
def keysNotesWrong : ChangeSpec := { name := "keysNotes", fn := fun _ => fun
  | [d1, d2, d3, d4] => { results := [.lit (.bool false)], args := [d1, d2, d3, d4] }
  | _ => none }
def KeysNotesWrongFalsely : Prop := keysNotesRow.holds Tryd.pinned (OpenSpec.ofChange keysNotesWrong)

/-- 'bevylaw11.KeysSpots': WHATEVER THE INPUT: true; the input reads as it did. -/
def keysSpotsSpec : ChangeSpec := { name := "keysSpots", fn := fun _ => fun
  | [d] => { results := [.lit (.bool true)], args := [d] }
  | _ => none }
def keysSpotsRow : OpenClaim := { program := "ytdfbmijbmlainaadoor", sum := "64aebea4cb8cf90d1d04fa98cdefd6139746b38c858e10b39cc9fc1799b45f66", func := "bevy/bevylaw11.KeysSpots", spec := "keysSpots", inPlace := ["internal/abi.NoEscape", "internal/bytealg.MakeNoZero"], named := ["bevy/wire.bounds"], plainKeys := false, apart := false, laid := [("bevy/wire.bounds", laid_bevy_wire_bounds)] }
def KeysSpotsSaid : Prop := keysSpotsRow.holds Tryd.pinned (OpenSpec.ofChange keysSpotsSpec)

/-- ITS FALSE NEIGHBOUR: 'it returns false'. Refute it at one input. -/
def keysSpotsWrong : ChangeSpec := { name := "keysSpots", fn := fun _ => fun
  | [d] => { results := [.lit (.bool false)], args := [d] }
  | _ => none }
def KeysSpotsWrongFalsely : Prop := keysSpotsRow.holds Tryd.pinned (OpenSpec.ofChange keysSpotsWrong)

/-- 'bevylaw11.KeysTags': WHATEVER THE INPUT: true; the input reads as it did. -/
def keysTagsSpec : ChangeSpec := { name := "keysTags", fn := fun _ => fun
  | [d1, d2] => { results := [.lit (.bool true)], args := [d1, d2] }
  | _ => none }
def keysTagsRow : OpenClaim := { program := "ytdfbmijbmlainaadoor", sum := "64aebea4cb8cf90d1d04fa98cdefd6139746b38c858e10b39cc9fc1799b45f66", func := "bevy/bevylaw11.KeysTags", spec := "keysTags", inPlace := ["internal/abi.NoEscape", "internal/bytealg.MakeNoZero"], named := ["bevy/wire.bounds"], plainKeys := false, apart := false, laid := [("bevy/wire.bounds", laid_bevy_wire_bounds)] }
def KeysTagsSaid : Prop := keysTagsRow.holds Tryd.pinned (OpenSpec.ofChange keysTagsSpec)

/-- ITS FALSE NEIGHBOUR: 'it returns false'. Refute it at one input. -/
def keysTagsWrong : ChangeSpec := { name := "keysTags", fn := fun _ => fun
  | [d1, d2] => { results := [.lit (.bool false)], args := [d1, d2] }
  | _ => none }
def KeysTagsWrongFalsely : Prop := keysTagsRow.holds Tryd.pinned (OpenSpec.ofChange keysTagsWrong)

/-- 'bevylaw11.KeysRoots': WHATEVER THE INPUT: true; the input reads as it did. -/
def keysRootsSpec : ChangeSpec := { name := "keysRoots", fn := fun _ => fun
  | [d1, d2] => { results := [.lit (.bool true)], args := [d1, d2] }
  | _ => none }
def keysRootsRow : OpenClaim := { program := "ytdfbmijbmlainaadoor", sum := "64aebea4cb8cf90d1d04fa98cdefd6139746b38c858e10b39cc9fc1799b45f66", func := "bevy/bevylaw11.KeysRoots", spec := "keysRoots", inPlace := ["internal/abi.NoEscape", "internal/bytealg.MakeNoZero"], named := ["bevy/wire.bounds"], plainKeys := false, apart := false, laid := [("bevy/wire.bounds", laid_bevy_wire_bounds)] }
def KeysRootsSaid : Prop := keysRootsRow.holds Tryd.pinned (OpenSpec.ofChange keysRootsSpec)

/-- ITS FALSE NEIGHBOUR: 'it returns false'. Refute it at one input. -/
def keysRootsWrong : ChangeSpec := { name := "keysRoots", fn := fun _ => fun
  | [d1, d2] => { results := [.lit (.bool false)], args := [d1, d2] }
  | _ => none }
def KeysRootsWrongFalsely : Prop := keysRootsRow.holds Tryd.pinned (OpenSpec.ofChange keysRootsWrong)

/- THE SECOND FORM. 'bulk': how many values and letters a reading holds, each counted each time it is reached (what is shared counts as often as it is met; a slice's spare places count too). A statement '..UptoSaid' is the law's where the arguments, and the package variables that the reading takes, are together of bulk at most 1048576: NARROWER than '..Said'. Prove '..Said' where nothing that the law and all that it calls make is longer than what came in: it says more and counts as full. Else prove '..UptoSaid'. A law counts once. -/
mutual
def uptoBulk {H : Type} : DataW H → Nat
  | .lit (.string bytes) => bytes.length + 1
  | .lit _ => 1
  | .nil => 1
  | .ptr d => uptoBulk d + 1
  | .slice elems spare => uptoBulkAll elems + uptoBulkAll spare + 1
  | .agg parts => uptoBulkAll parts + 1
  | .iface _ d => uptoBulk d + 1
  | .map entries => uptoBulkEntries entries + 1
  | .held _ => 1
def uptoBulkAll {H : Type} : List (DataW H) → Nat
  | [] => 0
  | d :: r => uptoBulk d + uptoBulkAll r
def uptoBulkEntries {H : Type} : List (Lit × DataW H) → Nat
  | [] => 0
  | x :: r => uptoBulkEntry x + uptoBulkEntries r
def uptoBulkEntry {H : Type} : Lit × DataW H → Nat
  | (.string bytes, d) => bytes.length + uptoBulk d + 1
  | (_, d) => uptoBulk d + 1
 end
def uptoSmall : (H : Type) → List (DataW H) → Bool := fun _ ds => decide (uptoBulkAll ds ≤ 1048576)
def OpenSpec.upto (s : _root_.Go.ChangeSpec) : _root_.Go.OpenSpec := { _root_.Go.OpenSpec.ofChange s with cond := some uptoSmall }

/-- 'bevylaw11.KeysMakes', WHERE WHAT IT READS IS OF BULK AT MOST 1048576: true; the input reads as it did. -/
def keysMakesUptoRow : OpenClaim := { program := "ytdfbmijbmlainaadoor", sum := "64aebea4cb8cf90d1d04fa98cdefd6139746b38c858e10b39cc9fc1799b45f66", func := "bevy/bevylaw11.KeysMakes", spec := "keysMakes", inPlace := ["internal/abi.NoEscape", "internal/bytealg.MakeNoZero"], named := ["bevy/wire.bounds"], plainKeys := false, apart := false, laid := [("bevy/wire.bounds", laid_bevy_wire_bounds)], narrowed := true }
def KeysMakesUptoSaid : Prop := keysMakesUptoRow.holds Tryd.pinned (OpenSpec.upto keysMakesSpec)

/-- 'bevylaw11.KeysSaid', WHERE WHAT IT READS IS OF BULK AT MOST 1048576: true; the input reads as it did. -/
def keysSaidUptoRow : OpenClaim := { program := "ytdfbmijbmlainaadoor", sum := "64aebea4cb8cf90d1d04fa98cdefd6139746b38c858e10b39cc9fc1799b45f66", func := "bevy/bevylaw11.KeysSaid", spec := "keysSaid", inPlace := ["internal/abi.NoEscape", "internal/bytealg.MakeNoZero"], named := ["bevy/wire.bounds"], plainKeys := false, apart := false, laid := [("bevy/wire.bounds", laid_bevy_wire_bounds)], narrowed := true }
def KeysSaidUptoSaid : Prop := keysSaidUptoRow.holds Tryd.pinned (OpenSpec.upto keysSaidSpec)

/-- 'bevylaw11.KeysNotes', WHERE WHAT IT READS IS OF BULK AT MOST 1048576: true; the input reads as it did. -/
def keysNotesUptoRow : OpenClaim := { program := "ytdfbmijbmlainaadoor", sum := "64aebea4cb8cf90d1d04fa98cdefd6139746b38c858e10b39cc9fc1799b45f66", func := "bevy/bevylaw11.KeysNotes", spec := "keysNotes", inPlace := ["internal/abi.NoEscape", "internal/bytealg.MakeNoZero", "internal/bytealg.Compare"], unfollowed := true, recurses := true, named := ["bevy/wire.bounds"], plainKeys := false, apart := false, laid := [("bevy/wire.bounds", laid_bevy_wire_bounds)], narrowed := true }
def KeysNotesUptoSaid : Prop := keysNotesUptoRow.holds Tryd.pinned (OpenSpec.upto keysNotesSpec)

/-- 'bevylaw11.KeysSpots', WHERE WHAT IT READS IS OF BULK AT MOST 1048576: true; the input reads as it did. -/
def keysSpotsUptoRow : OpenClaim := { program := "ytdfbmijbmlainaadoor", sum := "64aebea4cb8cf90d1d04fa98cdefd6139746b38c858e10b39cc9fc1799b45f66", func := "bevy/bevylaw11.KeysSpots", spec := "keysSpots", inPlace := ["internal/abi.NoEscape", "internal/bytealg.MakeNoZero"], named := ["bevy/wire.bounds"], plainKeys := false, apart := false, laid := [("bevy/wire.bounds", laid_bevy_wire_bounds)], narrowed := true }
def KeysSpotsUptoSaid : Prop := keysSpotsUptoRow.holds Tryd.pinned (OpenSpec.upto keysSpotsSpec)

/-- 'bevylaw11.KeysTags', WHERE WHAT IT READS IS OF BULK AT MOST 1048576: true; the input reads as it did. -/
def keysTagsUptoRow : OpenClaim := { program := "ytdfbmijbmlainaadoor", sum := "64aebea4cb8cf90d1d04fa98cdefd6139746b38c858e10b39cc9fc1799b45f66", func := "bevy/bevylaw11.KeysTags", spec := "keysTags", inPlace := ["internal/abi.NoEscape", "internal/bytealg.MakeNoZero"], named := ["bevy/wire.bounds"], plainKeys := false, apart := false, laid := [("bevy/wire.bounds", laid_bevy_wire_bounds)], narrowed := true }
def KeysTagsUptoSaid : Prop := keysTagsUptoRow.holds Tryd.pinned (OpenSpec.upto keysTagsSpec)

/-- 'bevylaw11.KeysRoots', WHERE WHAT IT READS IS OF BULK AT MOST 1048576: true; the input reads as it did. -/
def keysRootsUptoRow : OpenClaim := { program := "ytdfbmijbmlainaadoor", sum := "64aebea4cb8cf90d1d04fa98cdefd6139746b38c858e10b39cc9fc1799b45f66", func := "bevy/bevylaw11.KeysRoots", spec := "keysRoots", inPlace := ["internal/abi.NoEscape", "internal/bytealg.MakeNoZero"], named := ["bevy/wire.bounds"], plainKeys := false, apart := false, laid := [("bevy/wire.bounds", laid_bevy_wire_bounds)], narrowed := true }
def KeysRootsUptoSaid : Prop := keysRootsUptoRow.holds Tryd.pinned (OpenSpec.upto keysRootsSpec)

end Rows
end Go.Proofs.YtdfbmijbmlainaaDoor
