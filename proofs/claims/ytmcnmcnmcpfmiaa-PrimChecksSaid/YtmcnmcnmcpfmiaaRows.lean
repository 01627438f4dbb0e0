/-
  No cell of these rows narrows 'for every input' (looked for: loops, veiled, ifaces, maps, wideKeys, modest, calm, conditions, laid).
  DERIVED. THE GIVEN ROWS OF THIS SEAT. 13 by the template 'for every input the law returns true; each argument reads behind the call as it read before'; 0 by the template 'total and deterministic' (their statements: YtmcnmcnmcpfmiaaTotals.lean).
  GIVEN WITH THE SEED: the statements are not yours to turn. If you find one false, say at which input.
  Laid BY PROGRAM, IN A SANDBOX (cutbox-rows.mjs): the forced cells as the released guide's own fill.sh prints them over the translation e9822f1646e20dc8… (all of the seat's roots in one cut). By AI agents, Wed Nov 11 2026. No macro, syntax, notation, axiom, sorry.
-/
import Derived.Test.YtmcnmcnmcpfmiaaChecked
import GoSem.Claim
import GoSem.ClaimJoined
import GoSem.ClaimMapViews
import Derived.JoinedTies
import Derived.KernelRfl
namespace Go.Proofs.Ytmcnmcnmcpfmiaa
/- THE CELL 'sum', in the pinned program and in every row, IS THE sha256 OF THE DUMP (.gsa) THAT YtmcnmcnmcpfmiaaProg.lean LOADS. Nothing in Lean hashes anything: it is a label: what it is worth is what the hold of that sum in a sandbox is worth. -/
noncomputable def Try.pinned : Pinned := { name := "ytmcnmcnmcpfmiaa", sum := "e9822f1646e20dc88d983f6094972eff2d30a106965ab6ee88ef33bb039af12c", checked := Try.checked }
namespace Rows
def none {H : Type} : Left H := { results := [], args := [] }

/-- 'bevylaw04.BookFollows': WHATEVER THE INPUT: true; the input reads as it did. -/
def bookFollowsSpec : ChangeSpec := { name := "bookFollows", fn := fun _ => fun
  | [d1, d2] => { results := [.lit (.bool true)], args := [d1, d2] }
  | _ => none }
def bookFollowsRow : OpenClaim := { program := "ytmcnmcnmcpfmiaa", sum := "e9822f1646e20dc88d983f6094972eff2d30a106965ab6ee88ef33bb039af12c", func := "bevy/bevylaw04.BookFollows", spec := "bookFollows", inPlace := ["internal/abi.NoEscape", "internal/bytealg.MakeNoZero", "internal/bytealg.Compare"], unfollowed := true, recurses := true, plainKeys := false, apart := false }
def BookFollowsSaid : Prop := bookFollowsRow.holds Try.pinned (OpenSpec.ofChange bookFollowsSpec)

/-- ITS FALSE NEIGHBOUR: 'it returns false'. Refute it at one input. -/
def bookFollowsWrong : ChangeSpec := { name := "bookFollows", fn := fun _ => fun
  | [d1, d2] => { results := [.lit (.bool false)], args := [d1, d2] }
  | _ => none }
def BookFollowsWrongFalsely : Prop := bookFollowsRow.holds Try.pinned (OpenSpec.ofChange bookFollowsWrong)

/-- 'bevylaw04.BookMore': WHATEVER THE INPUT: true; the input reads as it did. -/
def bookMoreSpec : ChangeSpec := { name := "bookMore", fn := fun _ => fun
  | [d1, d2, d3, d4] => { results := [.lit (.bool true)], args := [d1, d2, d3, d4] }
  | _ => none }
def bookMoreRow : OpenClaim := { program := "ytmcnmcnmcpfmiaa", sum := "e9822f1646e20dc88d983f6094972eff2d30a106965ab6ee88ef33bb039af12c", func := "bevy/bevylaw04.BookMore", spec := "bookMore", inPlace := ["internal/abi.NoEscape", "internal/bytealg.MakeNoZero", "internal/bytealg.Compare"], unfollowed := true, recurses := true, plainKeys := false, apart := false }
def BookMoreSaid : Prop := bookMoreRow.holds Try.pinned (OpenSpec.ofChange bookMoreSpec)

/-- ITS FALSE NEIGHBOUR: 'it returns false'. Refute it at one input. -/
def bookMoreWrong : ChangeSpec := { name := "bookMore", fn := fun _ => fun
  | [d1, d2, d3, d4] => { results := [.lit (.bool false)], args := [d1, d2, d3, d4] }
  | _ => none }
def BookMoreWrongFalsely : Prop := bookMoreRow.holds Try.pinned (OpenSpec.ofChange bookMoreWrong)

/-- 'bevylaw04.BookRules': WHATEVER THE INPUT: true; the input reads as it did. -/
def bookRulesSpec : ChangeSpec := { name := "bookRules", fn := fun _ => fun
  | [d1, d2, d3] => { results := [.lit (.bool true)], args := [d1, d2, d3] }
  | _ => none }
def bookRulesRow : OpenClaim := { program := "ytmcnmcnmcpfmiaa", sum := "e9822f1646e20dc88d983f6094972eff2d30a106965ab6ee88ef33bb039af12c", func := "bevy/bevylaw04.BookRules", spec := "bookRules", inPlace := ["internal/abi.NoEscape", "internal/bytealg.MakeNoZero", "internal/bytealg.Compare"], unfollowed := true, recurses := true, plainKeys := false, apart := false }
def BookRulesSaid : Prop := bookRulesRow.holds Try.pinned (OpenSpec.ofChange bookRulesSpec)

/-- ITS FALSE NEIGHBOUR: 'it returns false'. Refute it at one input. -/
def bookRulesWrong : ChangeSpec := { name := "bookRules", fn := fun _ => fun
  | [d1, d2, d3] => { results := [.lit (.bool false)], args := [d1, d2, d3] }
  | _ => none }
def BookRulesWrongFalsely : Prop := bookRulesRow.holds Try.pinned (OpenSpec.ofChange bookRulesWrong)

/-- 'bevylaw04.BookNames': WHATEVER THE INPUT: true; the input reads as it did. -/
def bookNamesSpec : ChangeSpec := { name := "bookNames", fn := fun _ => fun
  | [d1, d2] => { results := [.lit (.bool true)], args := [d1, d2] }
  | _ => none }
def bookNamesRow : OpenClaim := { program := "ytmcnmcnmcpfmiaa", sum := "e9822f1646e20dc88d983f6094972eff2d30a106965ab6ee88ef33bb039af12c", func := "bevy/bevylaw04.BookNames", spec := "bookNames", inPlace := ["internal/abi.NoEscape", "internal/bytealg.MakeNoZero", "internal/bytealg.Compare"], unfollowed := true, recurses := true, plainKeys := false, apart := false }
def BookNamesSaid : Prop := bookNamesRow.holds Try.pinned (OpenSpec.ofChange bookNamesSpec)

/-- ITS FALSE NEIGHBOUR: 'it returns false'. Refute it at one input. -/
def bookNamesWrong : ChangeSpec := { name := "bookNames", fn := fun _ => fun
  | [d1, d2] => { results := [.lit (.bool false)], args := [d1, d2] }
  | _ => none }
def BookNamesWrongFalsely : Prop := bookNamesRow.holds Try.pinned (OpenSpec.ofChange bookNamesWrong)

/-- 'bevylaw04.BookNil': WHATEVER THE INPUT: true; the input reads as it did. -/
def bookNilSpec : ChangeSpec := { name := "bookNil", fn := fun _ => fun
  | [d1, d2, d3] => { results := [.lit (.bool true)], args := [d1, d2, d3] }
  | _ => none }
def bookNilRow : OpenClaim := { program := "ytmcnmcnmcpfmiaa", sum := "e9822f1646e20dc88d983f6094972eff2d30a106965ab6ee88ef33bb039af12c", func := "bevy/bevylaw04.BookNil", spec := "bookNil", inPlace := ["internal/abi.NoEscape", "internal/bytealg.MakeNoZero", "internal/bytealg.Compare"], unfollowed := true, recurses := true, plainKeys := false, apart := false }
def BookNilSaid : Prop := bookNilRow.holds Try.pinned (OpenSpec.ofChange bookNilSpec)

/-- ITS FALSE NEIGHBOUR: 'it returns false'. Refute it at one input. -/
def bookNilWrong : ChangeSpec := { name := "bookNil", fn := fun _ => fun
  | [d1, d2, d3] => { results := [.lit (.bool false)], args := [d1, d2, d3] }
  | _ => none }
def BookNilWrongFalsely : Prop := bookNilRow.holds Try.pinned (OpenSpec.ofChange bookNilWrong)

/-- 'bevylaw05.PrimKeys': WHATEVER THE INPUT: true; the input reads as it did. -/
def primKeysSpec : ChangeSpec := { name := "primKeys", fn := fun _ => fun
  | [d1, d2, d3, d4, d5] => { results := [.lit (.bool true)], args := [d1, d2, d3, d4, d5] }
  | _ => none }
def primKeysRow : OpenClaim := { program := "ytmcnmcnmcpfmiaa", sum := "e9822f1646e20dc88d983f6094972eff2d30a106965ab6ee88ef33bb039af12c", func := "bevy/bevylaw05.PrimKeys", spec := "primKeys", inPlace := ["internal/abi.NoEscape", "internal/bytealg.MakeNoZero"], plainKeys := false, apart := false }
def PrimKeysSaid : Prop := primKeysRow.holds Try.pinned (OpenSpec.ofChange primKeysSpec)

/-- ITS FALSE NEIGHBOUR: 'it returns false'. Refute it at one input. -/
def primKeysWrong : ChangeSpec := { name := "primKeys", fn := fun _ => fun
  | [d1, d2, d3, d4, d5] => { results := [.lit (.bool false)], args := [d1, d2, d3, d4, d5] }
  | _ => none }
def PrimKeysWrongFalsely : Prop := primKeysRow.holds Try.pinned (OpenSpec.ofChange primKeysWrong)

/-- 'bevylaw05.PrimSeals': WHATEVER THE INPUT: true; the input reads as it did. -/
def primSealsSpec : ChangeSpec := { name := "primSeals", fn := fun _ => fun
  | [d1, d2, d3] => { results := [.lit (.bool true)], args := [d1, d2, d3] }
  | _ => none }
def primSealsRow : OpenClaim := { program := "ytmcnmcnmcpfmiaa", sum := "e9822f1646e20dc88d983f6094972eff2d30a106965ab6ee88ef33bb039af12c", func := "bevy/bevylaw05.PrimSeals", spec := "primSeals", inPlace := ["internal/abi.NoEscape", "internal/bytealg.MakeNoZero"], plainKeys := false, apart := false }
def PrimSealsSaid : Prop := primSealsRow.holds Try.pinned (OpenSpec.ofChange primSealsSpec)

/-- ITS FALSE NEIGHBOUR: 'it returns false'. Refute it at one input. -/
def primSealsWrong : ChangeSpec := { name := "primSeals", fn := fun _ => fun
  | [d1, d2, d3] => { results := [.lit (.bool false)], args := [d1, d2, d3] }
  | _ => none }
def PrimSealsWrongFalsely : Prop := primSealsRow.holds Try.pinned (OpenSpec.ofChange primSealsWrong)

/-- 'bevylaw05.PrimOpens': WHATEVER THE INPUT: true; the input reads as it did. -/
def primOpensSpec : ChangeSpec := { name := "primOpens", fn := fun _ => fun
  | [d1, d2, d3] => { results := [.lit (.bool true)], args := [d1, d2, d3] }
  | _ => none }
def primOpensRow : OpenClaim := { program := "ytmcnmcnmcpfmiaa", sum := "e9822f1646e20dc88d983f6094972eff2d30a106965ab6ee88ef33bb039af12c", func := "bevy/bevylaw05.PrimOpens", spec := "primOpens", inPlace := ["internal/abi.NoEscape", "internal/bytealg.MakeNoZero"], plainKeys := false, apart := false }
def PrimOpensSaid : Prop := primOpensRow.holds Try.pinned (OpenSpec.ofChange primOpensSpec)

/-- ITS FALSE NEIGHBOUR: 'it returns false'. Refute it at one input. -/
def primOpensWrong : ChangeSpec := { name := "primOpens", fn := fun _ => fun
  | [d1, d2, d3] => { results := [.lit (.bool false)], args := [d1, d2, d3] }
  | _ => none }
def PrimOpensWrongFalsely : Prop := primOpensRow.holds Try.pinned (OpenSpec.ofChange primOpensWrong)

/-- 'bevylaw05.PrimWraps': WHATEVER THE INPUT: true; the input reads as it did. -/
def primWrapsSpec : ChangeSpec := { name := "primWraps", fn := fun _ => fun
  | [d1, d2, d3, d4] => { results := [.lit (.bool true)], args := [d1, d2, d3, d4] }
  | _ => none }
def primWrapsRow : OpenClaim := { program := "ytmcnmcnmcpfmiaa", sum := "e9822f1646e20dc88d983f6094972eff2d30a106965ab6ee88ef33bb039af12c", func := "bevy/bevylaw05.PrimWraps", spec := "primWraps", inPlace := ["internal/abi.NoEscape", "internal/bytealg.MakeNoZero"], plainKeys := false, apart := false }
def PrimWrapsSaid : Prop := primWrapsRow.holds Try.pinned (OpenSpec.ofChange primWrapsSpec)

/-- ITS FALSE NEIGHBOUR: 'it returns false'. Refute it at one input. -/
def primWrapsWrong : ChangeSpec := { name := "primWraps", fn := fun _ => fun
  | [d1, d2, d3, d4] => { results := [.lit (.bool false)], args := [d1, d2, d3, d4] }
  | _ => none }
def PrimWrapsWrongFalsely : Prop := primWrapsRow.holds Try.pinned (OpenSpec.ofChange primWrapsWrong)

/-- 'bevylaw05.PrimNotes': WHATEVER THE INPUT: true; the input reads as it did. -/
def primNotesSpec : ChangeSpec := { name := "primNotes", fn := fun _ => fun
  | [d1, d2] => { results := [.lit (.bool true)], args := [d1, d2] }
  | _ => none }
def primNotesRow : OpenClaim := { program := "ytmcnmcnmcpfmiaa", sum := "e9822f1646e20dc88d983f6094972eff2d30a106965ab6ee88ef33bb039af12c", func := "bevy/bevylaw05.PrimNotes", spec := "primNotes", inPlace := ["internal/abi.NoEscape", "internal/bytealg.MakeNoZero", "internal/bytealg.Compare"], unfollowed := true, recurses := true, plainKeys := false, apart := false }
def PrimNotesSaid : Prop := primNotesRow.holds Try.pinned (OpenSpec.ofChange primNotesSpec)

/-- ITS FALSE NEIGHBOUR: 'it returns false'. Refute it at one input. -/
def primNotesWrong : ChangeSpec := { name := "primNotes", fn := fun _ => fun
  | [d1, d2] => { results := [.lit (.bool false)], args := [d1, d2] }
  | _ => none }
def PrimNotesWrongFalsely : Prop := primNotesRow.holds Try.pinned (OpenSpec.ofChange primNotesWrong)

/-- 'bevylaw05.PrimLearns': WHATEVER THE INPUT: true; the input reads as it did. -/
def primLearnsSpec : ChangeSpec := { name := "primLearns", fn := fun _ => fun
  | [d1, d2] => { results := [.lit (.bool true)], args := [d1, d2] }
  | _ => none }
def primLearnsRow : OpenClaim := { program := "ytmcnmcnmcpfmiaa", sum := "e9822f1646e20dc88d983f6094972eff2d30a106965ab6ee88ef33bb039af12c", func := "bevy/bevylaw05.PrimLearns", spec := "primLearns", inPlace := ["internal/abi.NoEscape", "internal/bytealg.MakeNoZero", "internal/bytealg.Compare"], unfollowed := true, recurses := true, plainKeys := false, apart := false }
def PrimLearnsSaid : Prop := primLearnsRow.holds Try.pinned (OpenSpec.ofChange primLearnsSpec)

/-- ITS FALSE NEIGHBOUR: 'it returns false'. Refute it at one input. -/
def primLearnsWrong : ChangeSpec := { name := "primLearns", fn := fun _ => fun
  | [d1, d2] => { results := [.lit (.bool false)], args := [d1, d2] }
  | _ => none }
def PrimLearnsWrongFalsely : Prop := primLearnsRow.holds Try.pinned (OpenSpec.ofChange primLearnsWrong)

/-- 'bevylaw05.PrimPubs': WHATEVER THE INPUT: true; the input reads as it did. -/
def primPubsSpec : ChangeSpec := { name := "primPubs", fn := fun _ => fun
  | [d] => { results := [.lit (.bool true)], args := [d] }
  | _ => none }
def primPubsRow : OpenClaim := { program := "ytmcnmcnmcpfmiaa", sum := "e9822f1646e20dc88d983f6094972eff2d30a106965ab6ee88ef33bb039af12c", func := "bevy/bevylaw05.PrimPubs", spec := "primPubs", inPlace := ["internal/abi.NoEscape", "internal/bytealg.MakeNoZero"], plainKeys := false, apart := false }
def PrimPubsSaid : Prop := primPubsRow.holds Try.pinned (OpenSpec.ofChange primPubsSpec)

/-- ITS FALSE NEIGHBOUR: 'it returns false'. Refute it at one input. -/
def primPubsWrong : ChangeSpec := { name := "primPubs", fn := fun _ => fun
  | [d] => { results := [.lit (.bool false)], args := [d] }
  | _ => none }
def PrimPubsWrongFalsely : Prop := primPubsRow.holds Try.pinned (OpenSpec.ofChange primPubsWrong)

/-- 'bevylaw05.PrimChecks': WHATEVER THE INPUT: true; the input reads as it did. -/
def primChecksSpec : ChangeSpec := { name := "primChecks", fn := fun _ => fun
  | [d1, d2, d3] => { results := [.lit (.bool true)], args := [d1, d2, d3] }
  | _ => none }
def primChecksRow : OpenClaim := { program := "ytmcnmcnmcpfmiaa", sum := "e9822f1646e20dc88d983f6094972eff2d30a106965ab6ee88ef33bb039af12c", func := "bevy/bevylaw05.PrimChecks", spec := "primChecks", inPlace := ["internal/abi.NoEscape", "internal/bytealg.MakeNoZero"], plainKeys := false, apart := false }
def PrimChecksSaid : Prop := primChecksRow.holds Try.pinned (OpenSpec.ofChange primChecksSpec)

/-- ITS FALSE NEIGHBOUR: 'it returns false'. Refute it at one input. -/
def primChecksWrong : ChangeSpec := { name := "primChecks", fn := fun _ => fun
  | [d1, d2, d3] => { results := [.lit (.bool false)], args := [d1, d2, d3] }
  | _ => none }
def PrimChecksWrongFalsely : Prop := primChecksRow.holds Try.pinned (OpenSpec.ofChange primChecksWrong)

/- THE SECOND FORM. 'bulk': how many values and letters a reading holds, each counted each time it is reached (what is shared counts as often as it is met; a slice's spare places count too). A statement '..UptoSaid' is the law's where the arguments, and the package variables that the reading takes, are together of bulk at most 1048576: NARROWER than '..Said'. Prove '..Said' where nothing that the law and all that it calls make is longer than what came in: it says more and counts as full. Else prove '..UptoSaid'. A law counts once. -/
mutual
def uptoBulk {H : Type} : DataW H → Nat
  | .lit (.string bytes) => bytes.length + 1
  | .lit _ => 1
  | .nil => 1
  | .ptr d => uptoBulk d + 1
  | .slice elems spare => uptoBulkAll elems + uptoBulkAll spare + 1
  | .agg parts => uptoBulkAll parts + 1
  | .iface _ d => uptoBulk d + 1
  | .map entries => uptoBulkEntries entries + 1
  | .held _ => 1
def uptoBulkAll {H : Type} : List (DataW H) → Nat
  | [] => 0
  | d :: r => uptoBulk d + uptoBulkAll r
def uptoBulkEntries {H : Type} : List (Lit × DataW H) → Nat
  | [] => 0
  | x :: r => uptoBulkEntry x + uptoBulkEntries r
def uptoBulkEntry {H : Type} : Lit × DataW H → Nat
  | (.string bytes, d) => bytes.length + uptoBulk d + 1
  | (_, d) => uptoBulk d + 1
 end
def uptoSmall : (H : Type) → List (DataW H) → Bool := fun _ ds => decide (uptoBulkAll ds ≤ 1048576)
def OpenSpec.upto (s : _root_.Go.ChangeSpec) : _root_.Go.OpenSpec := { _root_.Go.OpenSpec.ofChange s with cond := some uptoSmall }

/-- 'bevylaw04.BookFollows', WHERE WHAT IT READS IS OF BULK AT MOST 1048576: true; the input reads as it did. -/
def bookFollowsUptoRow : OpenClaim := { program := "ytmcnmcnmcpfmiaa", sum := "e9822f1646e20dc88d983f6094972eff2d30a106965ab6ee88ef33bb039af12c", func := "bevy/bevylaw04.BookFollows", spec := "bookFollows", inPlace := ["internal/abi.NoEscape", "internal/bytealg.MakeNoZero", "internal/bytealg.Compare"], unfollowed := true, recurses := true, plainKeys := false, apart := false, narrowed := true }
def BookFollowsUptoSaid : Prop := bookFollowsUptoRow.holds Try.pinned (OpenSpec.upto bookFollowsSpec)

/-- 'bevylaw04.BookMore', WHERE WHAT IT READS IS OF BULK AT MOST 1048576: true; the input reads as it did. -/
def bookMoreUptoRow : OpenClaim := { program := "ytmcnmcnmcpfmiaa", sum := "e9822f1646e20dc88d983f6094972eff2d30a106965ab6ee88ef33bb039af12c", func := "bevy/bevylaw04.BookMore", spec := "bookMore", inPlace := ["internal/abi.NoEscape", "internal/bytealg.MakeNoZero", "internal/bytealg.Compare"], unfollowed := true, recurses := true, plainKeys := false, apart := false, narrowed := true }
def BookMoreUptoSaid : Prop := bookMoreUptoRow.holds Try.pinned (OpenSpec.upto bookMoreSpec)

/-- 'bevylaw04.BookRules', WHERE WHAT IT READS IS OF BULK AT MOST 1048576: true; the input reads as it did. -/
def bookRulesUptoRow : OpenClaim := { program := "ytmcnmcnmcpfmiaa", sum := "e9822f1646e20dc88d983f6094972eff2d30a106965ab6ee88ef33bb039af12c", func := "bevy/bevylaw04.BookRules", spec := "bookRules", inPlace := ["internal/abi.NoEscape", "internal/bytealg.MakeNoZero", "internal/bytealg.Compare"], unfollowed := true, recurses := true, plainKeys := false, apart := false, narrowed := true }
def BookRulesUptoSaid : Prop := bookRulesUptoRow.holds Try.pinned (OpenSpec.upto bookRulesSpec)

/-- 'bevylaw04.BookNames', WHERE WHAT IT READS IS OF BULK AT MOST 1048576: true; the input reads as it did. -/
def bookNamesUptoRow : OpenClaim := { program := "ytmcnmcnmcpfmiaa", sum := "e9822f1646e20dc88d983f6094972eff2d30a106965ab6ee88ef33bb039af12c", func := "bevy/bevylaw04.BookNames", spec := "bookNames", inPlace := ["internal/abi.NoEscape", "internal/bytealg.MakeNoZero", "internal/bytealg.Compare"], unfollowed := true, recurses := true, plainKeys := false, apart := false, narrowed := true }
def BookNamesUptoSaid : Prop := bookNamesUptoRow.holds Try.pinned (OpenSpec.upto bookNamesSpec)

/-- 'bevylaw04.BookNil', WHERE WHAT IT READS IS OF BULK AT MOST 1048576: true; the input reads as it did. -/
def bookNilUptoRow : OpenClaim := { program := "ytmcnmcnmcpfmiaa", sum := "e9822f1646e20dc88d983f6094972eff2d30a106965ab6ee88ef33bb039af12c", func := "bevy/bevylaw04.BookNil", spec := "bookNil", inPlace := ["internal/abi.NoEscape", "internal/bytealg.MakeNoZero", "internal/bytealg.Compare"], unfollowed := true, recurses := true, plainKeys := false, apart := false, narrowed := true }
def BookNilUptoSaid : Prop := bookNilUptoRow.holds Try.pinned (OpenSpec.upto bookNilSpec)

/-- 'bevylaw05.PrimKeys', WHERE WHAT IT READS IS OF BULK AT MOST 1048576: true; the input reads as it did. -/
def primKeysUptoRow : OpenClaim := { program := "ytmcnmcnmcpfmiaa", sum := "e9822f1646e20dc88d983f6094972eff2d30a106965ab6ee88ef33bb039af12c", func := "bevy/bevylaw05.PrimKeys", spec := "primKeys", inPlace := ["internal/abi.NoEscape", "internal/bytealg.MakeNoZero"], plainKeys := false, apart := false, narrowed := true }
def PrimKeysUptoSaid : Prop := primKeysUptoRow.holds Try.pinned (OpenSpec.upto primKeysSpec)

/-- 'bevylaw05.PrimSeals', WHERE WHAT IT READS IS OF BULK AT MOST 1048576: true; the input reads as it did. -/
def primSealsUptoRow : OpenClaim := { program := "ytmcnmcnmcpfmiaa", sum := "e9822f1646e20dc88d983f6094972eff2d30a106965ab6ee88ef33bb039af12c", func := "bevy/bevylaw05.PrimSeals", spec := "primSeals", inPlace := ["internal/abi.NoEscape", "internal/bytealg.MakeNoZero"], plainKeys := false, apart := false, narrowed := true }
def PrimSealsUptoSaid : Prop := primSealsUptoRow.holds Try.pinned (OpenSpec.upto primSealsSpec)

/-- 'bevylaw05.PrimOpens', WHERE WHAT IT READS IS OF BULK AT MOST 1048576: true; the input reads as it did. -/
def primOpensUptoRow : OpenClaim := { program := "ytmcnmcnmcpfmiaa", sum := "e9822f1646e20dc88d983f6094972eff2d30a106965ab6ee88ef33bb039af12c", func := "bevy/bevylaw05.PrimOpens", spec := "primOpens", inPlace := ["internal/abi.NoEscape", "internal/bytealg.MakeNoZero"], plainKeys := false, apart := false, narrowed := true }
def PrimOpensUptoSaid : Prop := primOpensUptoRow.holds Try.pinned (OpenSpec.upto primOpensSpec)

/-- 'bevylaw05.PrimWraps', WHERE WHAT IT READS IS OF BULK AT MOST 1048576: true; the input reads as it did. -/
def primWrapsUptoRow : OpenClaim := { program := "ytmcnmcnmcpfmiaa", sum := "e9822f1646e20dc88d983f6094972eff2d30a106965ab6ee88ef33bb039af12c", func := "bevy/bevylaw05.PrimWraps", spec := "primWraps", inPlace := ["internal/abi.NoEscape", "internal/bytealg.MakeNoZero"], plainKeys := false, apart := false, narrowed := true }
def PrimWrapsUptoSaid : Prop := primWrapsUptoRow.holds Try.pinned (OpenSpec.upto primWrapsSpec)

/-- 'bevylaw05.PrimNotes', WHERE WHAT IT READS IS OF BULK AT MOST 1048576: true; the input reads as it did. -/
def primNotesUptoRow : OpenClaim := { program := "ytmcnmcnmcpfmiaa", sum := "e9822f1646e20dc88d983f6094972eff2d30a106965ab6ee88ef33bb039af12c", func := "bevy/bevylaw05.PrimNotes", spec := "primNotes", inPlace := ["internal/abi.NoEscape", "internal/bytealg.MakeNoZero", "internal/bytealg.Compare"], unfollowed := true, recurses := true, plainKeys := false, apart := false, narrowed := true }
def PrimNotesUptoSaid : Prop := primNotesUptoRow.holds Try.pinned (OpenSpec.upto primNotesSpec)

/-- 'bevylaw05.PrimLearns', WHERE WHAT IT READS IS OF BULK AT MOST 1048576: true; the input reads as it did. -/
def primLearnsUptoRow : OpenClaim := { program := "ytmcnmcnmcpfmiaa", sum := "e9822f1646e20dc88d983f6094972eff2d30a106965ab6ee88ef33bb039af12c", func := "bevy/bevylaw05.PrimLearns", spec := "primLearns", inPlace := ["internal/abi.NoEscape", "internal/bytealg.MakeNoZero", "internal/bytealg.Compare"], unfollowed := true, recurses := true, plainKeys := false, apart := false, narrowed := true }
def PrimLearnsUptoSaid : Prop := primLearnsUptoRow.holds Try.pinned (OpenSpec.upto primLearnsSpec)

/-- 'bevylaw05.PrimPubs', WHERE WHAT IT READS IS OF BULK AT MOST 1048576: true; the input reads as it did. -/
def primPubsUptoRow : OpenClaim := { program := "ytmcnmcnmcpfmiaa", sum := "e9822f1646e20dc88d983f6094972eff2d30a106965ab6ee88ef33bb039af12c", func := "bevy/bevylaw05.PrimPubs", spec := "primPubs", inPlace := ["internal/abi.NoEscape", "internal/bytealg.MakeNoZero"], plainKeys := false, apart := false, narrowed := true }
def PrimPubsUptoSaid : Prop := primPubsUptoRow.holds Try.pinned (OpenSpec.upto primPubsSpec)

/-- 'bevylaw05.PrimChecks', WHERE WHAT IT READS IS OF BULK AT MOST 1048576: true; the input reads as it did. -/
def primChecksUptoRow : OpenClaim := { program := "ytmcnmcnmcpfmiaa", sum := "e9822f1646e20dc88d983f6094972eff2d30a106965ab6ee88ef33bb039af12c", func := "bevy/bevylaw05.PrimChecks", spec := "primChecks", inPlace := ["internal/abi.NoEscape", "internal/bytealg.MakeNoZero"], plainKeys := false, apart := false, narrowed := true }
def PrimChecksUptoSaid : Prop := primChecksUptoRow.holds Try.pinned (OpenSpec.upto primChecksSpec)

end Rows
end Go.Proofs.Ytmcnmcnmcpfmiaa
