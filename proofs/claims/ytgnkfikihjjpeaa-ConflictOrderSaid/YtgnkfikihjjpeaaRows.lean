/-
  No cell of these rows narrows 'for every input' (looked for: loops, veiled, ifaces, maps, wideKeys, modest, calm, conditions, laid).
  DERIVED. THE GIVEN ROWS OF THIS SEAT. 7 by the template 'for every input the law returns true; each argument reads behind the call as it read before'; 0 by the template 'total and deterministic' (their statements: YtgnkfikihjjpeaaTotals.lean).
  GIVEN WITH THE SEED: the statements are not yours to turn. If you find one false, say at which input.
  Laid BY PROGRAM, IN A SANDBOX (cutbox-rows.mjs): the forced cells as the released guide's own fill.sh prints them over the translation 93c3a911722e7af5… (all of the seat's roots in one cut). By AI agents, Wed Nov 11 2026. No macro, syntax, notation, axiom, sorry.
-/
import Derived.Test.YtgnkfikihjjpeaaChecked
import GoSem.Claim
import GoSem.ClaimJoined
import GoSem.ClaimMapViews
import Derived.JoinedTies
import Derived.KernelRfl
namespace Go.Proofs.Ytgnkfikihjjpeaa
/- THE CELL 'sum', in the pinned program and in every row, IS THE sha256 OF THE DUMP (.gsa) THAT YtgnkfikihjjpeaaProg.lean LOADS. Nothing in Lean hashes anything: it is a label: what it is worth is what the hold of that sum in a sandbox is worth. -/
noncomputable def Try.pinned : Pinned := { name := "ytgnkfikihjjpeaa", sum := "93c3a911722e7af5c7f9fa370eaa1199478b78b54f72077268bd59baa98fdd86", checked := Try.checked }
namespace Rows
def none {H : Type} : Left H := { results := [], args := [] }

/-- 'cordwoodlaw31.ConflictCheck': WHATEVER THE INPUT: true; the input reads as it did. -/
def conflictCheckSpec : ChangeSpec := { name := "conflictCheck", fn := fun _ => fun
  | [d1, d2] => { results := [.lit (.bool true)], args := [d1, d2] }
  | _ => none }
def conflictCheckRow : OpenClaim := { program := "ytgnkfikihjjpeaa", sum := "93c3a911722e7af5c7f9fa370eaa1199478b78b54f72077268bd59baa98fdd86", func := "cordwood/cordwoodlaw31.ConflictCheck", spec := "conflictCheck", inPlace := ["internal/abi.NoEscape"], unfollowed := true, recurses := true, apart := false }
def ConflictCheckSaid : Prop := conflictCheckRow.holds Try.pinned (OpenSpec.ofChange conflictCheckSpec)

/-- ITS FALSE NEIGHBOUR: 'it returns false'. Refute it at one input. -/
def conflictCheckWrong : ChangeSpec := { name := "conflictCheck", fn := fun _ => fun
  | [d1, d2] => { results := [.lit (.bool false)], args := [d1, d2] }
  | _ => none }
def ConflictCheckWrongFalsely : Prop := conflictCheckRow.holds Try.pinned (OpenSpec.ofChange conflictCheckWrong)

/-- 'cordwoodlaw31.ConflictMerge': WHATEVER THE INPUT: true; the input reads as it did. -/
def conflictMergeSpec : ChangeSpec := { name := "conflictMerge", fn := fun _ => fun
  | [d1, d2, d3] => { results := [.lit (.bool true)], args := [d1, d2, d3] }
  | _ => none }
def conflictMergeRow : OpenClaim := { program := "ytgnkfikihjjpeaa", sum := "93c3a911722e7af5c7f9fa370eaa1199478b78b54f72077268bd59baa98fdd86", func := "cordwood/cordwoodlaw31.ConflictMerge", spec := "conflictMerge", unfollowed := true, recurses := true, apart := false }
def ConflictMergeSaid : Prop := conflictMergeRow.holds Try.pinned (OpenSpec.ofChange conflictMergeSpec)

/-- ITS FALSE NEIGHBOUR: 'it returns false'. Refute it at one input. -/
def conflictMergeWrong : ChangeSpec := { name := "conflictMerge", fn := fun _ => fun
  | [d1, d2, d3] => { results := [.lit (.bool false)], args := [d1, d2, d3] }
  | _ => none }
def ConflictMergeWrongFalsely : Prop := conflictMergeRow.holds Try.pinned (OpenSpec.ofChange conflictMergeWrong)

/-- 'cordwoodlaw31.ConflictDecode': WHATEVER THE INPUT: true; the input reads as it did. -/
def conflictDecodeSpec : ChangeSpec := { name := "conflictDecode", fn := fun _ => fun
  | [d] => { results := [.lit (.bool true)], args := [d] }
  | _ => none }
def conflictDecodeRow : OpenClaim := { program := "ytgnkfikihjjpeaa", sum := "93c3a911722e7af5c7f9fa370eaa1199478b78b54f72077268bd59baa98fdd86", func := "cordwood/cordwoodlaw31.ConflictDecode", spec := "conflictDecode", inPlace := ["internal/abi.NoEscape"], unfollowed := true, recurses := true, apart := false }
def ConflictDecodeSaid : Prop := conflictDecodeRow.holds Try.pinned (OpenSpec.ofChange conflictDecodeSpec)

/-- ITS FALSE NEIGHBOUR: 'it returns false'. Refute it at one input. -/
def conflictDecodeWrong : ChangeSpec := { name := "conflictDecode", fn := fun _ => fun
  | [d] => { results := [.lit (.bool false)], args := [d] }
  | _ => none }
def ConflictDecodeWrongFalsely : Prop := conflictDecodeRow.holds Try.pinned (OpenSpec.ofChange conflictDecodeWrong)

/-- 'cordwoodlaw31.ConflictRoundTrip': WHATEVER THE INPUT: true; the input reads as it did. -/
def conflictRoundTripSpec : ChangeSpec := { name := "conflictRoundTrip", fn := fun _ => fun
  | [d] => { results := [.lit (.bool true)], args := [d] }
  | _ => none }
def conflictRoundTripRow : OpenClaim := { program := "ytgnkfikihjjpeaa", sum := "93c3a911722e7af5c7f9fa370eaa1199478b78b54f72077268bd59baa98fdd86", func := "cordwood/cordwoodlaw31.ConflictRoundTrip", spec := "conflictRoundTrip", inPlace := ["internal/abi.NoEscape"], unfollowed := true, recurses := true, apart := false }
def ConflictRoundTripSaid : Prop := conflictRoundTripRow.holds Try.pinned (OpenSpec.ofChange conflictRoundTripSpec)

/-- ITS FALSE NEIGHBOUR: 'it returns false'. Refute it at one input. -/
def conflictRoundTripWrong : ChangeSpec := { name := "conflictRoundTrip", fn := fun _ => fun
  | [d] => { results := [.lit (.bool false)], args := [d] }
  | _ => none }
def ConflictRoundTripWrongFalsely : Prop := conflictRoundTripRow.holds Try.pinned (OpenSpec.ofChange conflictRoundTripWrong)

/-- 'cordwoodlaw31.ConflictTrivial': WHATEVER THE INPUT: true; the input reads as it did. -/
def conflictTrivialSpec : ChangeSpec := { name := "conflictTrivial", fn := fun _ => fun
  | [d1, d2, d3] => { results := [.lit (.bool true)], args := [d1, d2, d3] }
  | _ => none }
def conflictTrivialRow : OpenClaim := { program := "ytgnkfikihjjpeaa", sum := "93c3a911722e7af5c7f9fa370eaa1199478b78b54f72077268bd59baa98fdd86", func := "cordwood/cordwoodlaw31.ConflictTrivial", spec := "conflictTrivial", unfollowed := true, recurses := true, apart := false }
def ConflictTrivialSaid : Prop := conflictTrivialRow.holds Try.pinned (OpenSpec.ofChange conflictTrivialSpec)

/-- ITS FALSE NEIGHBOUR: 'it returns false'. Refute it at one input. -/
def conflictTrivialWrong : ChangeSpec := { name := "conflictTrivial", fn := fun _ => fun
  | [d1, d2, d3] => { results := [.lit (.bool false)], args := [d1, d2, d3] }
  | _ => none }
def ConflictTrivialWrongFalsely : Prop := conflictTrivialRow.holds Try.pinned (OpenSpec.ofChange conflictTrivialWrong)

/-- 'cordwoodlaw31.ConflictUndo': WHATEVER THE INPUT: true; the input reads as it did. -/
def conflictUndoSpec : ChangeSpec := { name := "conflictUndo", fn := fun _ => fun
  | [d1, d2, d3] => { results := [.lit (.bool true)], args := [d1, d2, d3] }
  | _ => none }
def conflictUndoRow : OpenClaim := { program := "ytgnkfikihjjpeaa", sum := "93c3a911722e7af5c7f9fa370eaa1199478b78b54f72077268bd59baa98fdd86", func := "cordwood/cordwoodlaw31.ConflictUndo", spec := "conflictUndo", unfollowed := true, recurses := true, apart := false }
def ConflictUndoSaid : Prop := conflictUndoRow.holds Try.pinned (OpenSpec.ofChange conflictUndoSpec)

/-- ITS FALSE NEIGHBOUR: 'it returns false'. Refute it at one input. -/
def conflictUndoWrong : ChangeSpec := { name := "conflictUndo", fn := fun _ => fun
  | [d1, d2, d3] => { results := [.lit (.bool false)], args := [d1, d2, d3] }
  | _ => none }
def ConflictUndoWrongFalsely : Prop := conflictUndoRow.holds Try.pinned (OpenSpec.ofChange conflictUndoWrong)

/-- 'cordwoodlaw31.ConflictOrder': WHATEVER THE INPUT: true; the input reads as it did. -/
def conflictOrderSpec : ChangeSpec := { name := "conflictOrder", fn := fun _ => fun
  | [d1, d2] => { results := [.lit (.bool true)], args := [d1, d2] }
  | _ => none }
def conflictOrderRow : OpenClaim := { program := "ytgnkfikihjjpeaa", sum := "93c3a911722e7af5c7f9fa370eaa1199478b78b54f72077268bd59baa98fdd86", func := "cordwood/cordwoodlaw31.ConflictOrder", spec := "conflictOrder", unfollowed := true, recurses := true, apart := false }
def ConflictOrderSaid : Prop := conflictOrderRow.holds Try.pinned (OpenSpec.ofChange conflictOrderSpec)

/-- ITS FALSE NEIGHBOUR: 'it returns false'. Refute it at one input. -/
def conflictOrderWrong : ChangeSpec := { name := "conflictOrder", fn := fun _ => fun
  | [d1, d2] => { results := [.lit (.bool false)], args := [d1, d2] }
  | _ => none }
def ConflictOrderWrongFalsely : Prop := conflictOrderRow.holds Try.pinned (OpenSpec.ofChange conflictOrderWrong)

/- THE SECOND FORM. 'bulk': how many values and letters a reading holds, each counted each time it is reached (what is shared counts as often as it is met; a slice's spare places count too). A statement '..UptoSaid' is the law's where the arguments, and the package variables that the reading takes, are together of bulk at most 1048576: NARROWER than '..Said'. Prove '..Said' where nothing that the law and all that it calls make is longer than what came in: it says more and counts as full. Else prove '..UptoSaid'. A law counts once. -/
mutual
def uptoBulk {H : Type} : DataW H → Nat
  | .lit (.string bytes) => bytes.length + 1
  | .lit _ => 1
  | .nil => 1
  | .ptr d => uptoBulk d + 1
  | .slice elems spare => uptoBulkAll elems + uptoBulkAll spare + 1
  | .agg parts => uptoBulkAll parts + 1
  | .iface _ d => uptoBulk d + 1
  | .map entries => uptoBulkEntries entries + 1
  | .held _ => 1
def uptoBulkAll {H : Type} : List (DataW H) → Nat
  | [] => 0
  | d :: r => uptoBulk d + uptoBulkAll r
def uptoBulkEntries {H : Type} : List (Lit × DataW H) → Nat
  | [] => 0
  | x :: r => uptoBulkEntry x + uptoBulkEntries r
def uptoBulkEntry {H : Type} : Lit × DataW H → Nat
  | (.string bytes, d) => bytes.length + uptoBulk d + 1
  | (_, d) => uptoBulk d + 1
 end
def uptoSmall : (H : Type) → List (DataW H) → Bool := fun _ ds => decide (uptoBulkAll ds ≤ 1048576)
def OpenSpec.upto (s : _root_.Go.ChangeSpec) : _root_.Go.OpenSpec := { _root_.Go.OpenSpec.ofChange s with cond := some uptoSmall }

/-- 'cordwoodlaw31.ConflictCheck', WHERE WHAT IT READS IS OF BULK AT MOST 1048576: true; the input reads as it did. -/
def conflictCheckUptoRow : OpenClaim := { program := "ytgnkfikihjjpeaa", sum := "93c3a911722e7af5c7f9fa370eaa1199478b78b54f72077268bd59baa98fdd86", func := "cordwood/cordwoodlaw31.ConflictCheck", spec := "conflictCheck", inPlace := ["internal/abi.NoEscape"], unfollowed := true, recurses := true, apart := false, narrowed := true }
def ConflictCheckUptoSaid : Prop := conflictCheckUptoRow.holds Try.pinned (OpenSpec.upto conflictCheckSpec)

/-- 'cordwoodlaw31.ConflictMerge', WHERE WHAT IT READS IS OF BULK AT MOST 1048576: true; the input reads as it did. -/
def conflictMergeUptoRow : OpenClaim := { program := "ytgnkfikihjjpeaa", sum := "93c3a911722e7af5c7f9fa370eaa1199478b78b54f72077268bd59baa98fdd86", func := "cordwood/cordwoodlaw31.ConflictMerge", spec := "conflictMerge", unfollowed := true, recurses := true, apart := false, narrowed := true }
def ConflictMergeUptoSaid : Prop := conflictMergeUptoRow.holds Try.pinned (OpenSpec.upto conflictMergeSpec)

/-- 'cordwoodlaw31.ConflictDecode', WHERE WHAT IT READS IS OF BULK AT MOST 1048576: true; the input reads as it did. -/
def conflictDecodeUptoRow : OpenClaim := { program := "ytgnkfikihjjpeaa", sum := "93c3a911722e7af5c7f9fa370eaa1199478b78b54f72077268bd59baa98fdd86", func := "cordwood/cordwoodlaw31.ConflictDecode", spec := "conflictDecode", inPlace := ["internal/abi.NoEscape"], unfollowed := true, recurses := true, apart := false, narrowed := true }
def ConflictDecodeUptoSaid : Prop := conflictDecodeUptoRow.holds Try.pinned (OpenSpec.upto conflictDecodeSpec)

/-- 'cordwoodlaw31.ConflictRoundTrip', WHERE WHAT IT READS IS OF BULK AT MOST 1048576: true; the input reads as it did. -/
def conflictRoundTripUptoRow : OpenClaim := { program := "ytgnkfikihjjpeaa", sum := "93c3a911722e7af5c7f9fa370eaa1199478b78b54f72077268bd59baa98fdd86", func := "cordwood/cordwoodlaw31.ConflictRoundTrip", spec := "conflictRoundTrip", inPlace := ["internal/abi.NoEscape"], unfollowed := true, recurses := true, apart := false, narrowed := true }
def ConflictRoundTripUptoSaid : Prop := conflictRoundTripUptoRow.holds Try.pinned (OpenSpec.upto conflictRoundTripSpec)

/-- 'cordwoodlaw31.ConflictTrivial', WHERE WHAT IT READS IS OF BULK AT MOST 1048576: true; the input reads as it did. -/
def conflictTrivialUptoRow : OpenClaim := { program := "ytgnkfikihjjpeaa", sum := "93c3a911722e7af5c7f9fa370eaa1199478b78b54f72077268bd59baa98fdd86", func := "cordwood/cordwoodlaw31.ConflictTrivial", spec := "conflictTrivial", unfollowed := true, recurses := true, apart := false, narrowed := true }
def ConflictTrivialUptoSaid : Prop := conflictTrivialUptoRow.holds Try.pinned (OpenSpec.upto conflictTrivialSpec)

/-- 'cordwoodlaw31.ConflictUndo', WHERE WHAT IT READS IS OF BULK AT MOST 1048576: true; the input reads as it did. -/
def conflictUndoUptoRow : OpenClaim := { program := "ytgnkfikihjjpeaa", sum := "93c3a911722e7af5c7f9fa370eaa1199478b78b54f72077268bd59baa98fdd86", func := "cordwood/cordwoodlaw31.ConflictUndo", spec := "conflictUndo", unfollowed := true, recurses := true, apart := false, narrowed := true }
def ConflictUndoUptoSaid : Prop := conflictUndoUptoRow.holds Try.pinned (OpenSpec.upto conflictUndoSpec)

/-- 'cordwoodlaw31.ConflictOrder', WHERE WHAT IT READS IS OF BULK AT MOST 1048576: true; the input reads as it did. -/
def conflictOrderUptoRow : OpenClaim := { program := "ytgnkfikihjjpeaa", sum := "93c3a911722e7af5c7f9fa370eaa1199478b78b54f72077268bd59baa98fdd86", func := "cordwood/cordwoodlaw31.ConflictOrder", spec := "conflictOrder", unfollowed := true, recurses := true, apart := false, narrowed := true }
def ConflictOrderUptoSaid : Prop := conflictOrderUptoRow.holds Try.pinned (OpenSpec.upto conflictOrderSpec)

end Rows
end Go.Proofs.Ytgnkfikihjjpeaa
