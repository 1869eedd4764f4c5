/-
  No cell of these rows narrows 'for every input' (looked for: loops, veiled, ifaces, maps, wideKeys, modest, calm, conditions, laid).
  DERIVED. THE GIVEN ROWS OF THIS SEAT. 4 by the template 'for every input the law returns true; each argument reads behind the call as it read before'; 0 by the template 'total and deterministic' (their statements: YtfkfkoebplpooaaTotals.lean).
  GIVEN WITH THE SEED: the statements are not yours to turn. If you find one false, say at which input.
  Laid BY PROGRAM, IN A SANDBOX (cutbox-rows.mjs): the forced cells as the released guide's own fill.sh prints them over the translation 85cf3375e22e3a37… (all of the seat's roots in one cut). By AI agents, Wed Nov 11 2026. No macro, syntax, notation, axiom, sorry.
-/
import Derived.Test.YtfkfkoebplpooaaChecked
import GoSem.Claim
import GoSem.ClaimJoined
import GoSem.ClaimMapViews
import Derived.JoinedTies
import Derived.KernelRfl
namespace Go.Proofs.Ytfkfkoebplpooaa
/- THE CELL 'sum', in the pinned program and in every row, IS THE sha256 OF THE DUMP (.gsa) THAT YtfkfkoebplpooaaProg.lean LOADS. Nothing in Lean hashes anything: it is a label: what it is worth is what the hold of that sum in a sandbox is worth. -/
noncomputable def Try.pinned : Pinned := { name := "ytfkfkoebplpooaa", sum := "85cf3375e22e3a3713989b240231e9c96ab983d1b078c3bc4b3eeccc6ed96855", checked := Try.checked }
namespace Rows
def none {H : Type} : Left H := { results := [], args := [] }

/-- 'gantletlaw21.TapPlays': WHATEVER THE INPUT: true; the input reads as it did. -/
def tapPlaysSpec : ChangeSpec := { name := "tapPlays", fn := fun _ => fun
  | [d] => { results := [.lit (.bool true)], args := [d] }
  | _ => none }
def tapPlaysRow : OpenClaim := { program := "ytfkfkoebplpooaa", sum := "85cf3375e22e3a3713989b240231e9c96ab983d1b078c3bc4b3eeccc6ed96855", func := "gantlet/gantletlaw21.TapPlays", spec := "tapPlays", inPlace := ["internal/abi.NoEscape", "internal/bytealg.MakeNoZero"], apart := false }
def TapPlaysSaid : Prop := tapPlaysRow.holds Try.pinned (OpenSpec.ofChange tapPlaysSpec)

/-- ITS FALSE NEIGHBOUR: 'it returns false'. Refute it at one input. -/
def tapPlaysWrong : ChangeSpec := { name := "tapPlays", fn := fun _ => fun
  | [d] => { results := [.lit (.bool false)], args := [d] }
  | _ => none }
def TapPlaysWrongFalsely : Prop := tapPlaysRow.holds Try.pinned (OpenSpec.ofChange tapPlaysWrong)

/-- 'gantletlaw21.TapParts': WHATEVER THE INPUT: true; the input reads as it did. -/
def tapPartsSpec : ChangeSpec := { name := "tapParts", fn := fun _ => fun
  | [d1, d2, d3] => { results := [.lit (.bool true)], args := [d1, d2, d3] }
  | _ => none }
def tapPartsRow : OpenClaim := { program := "ytfkfkoebplpooaa", sum := "85cf3375e22e3a3713989b240231e9c96ab983d1b078c3bc4b3eeccc6ed96855", func := "gantlet/gantletlaw21.TapParts", spec := "tapParts", inPlace := ["internal/abi.NoEscape", "internal/bytealg.MakeNoZero"], apart := false }
def TapPartsSaid : Prop := tapPartsRow.holds Try.pinned (OpenSpec.ofChange tapPartsSpec)

/-- ITS FALSE NEIGHBOUR: 'it returns false'. Refute it at one input. -/
def tapPartsWrong : ChangeSpec := { name := "tapParts", fn := fun _ => fun
  | [d1, d2, d3] => { results := [.lit (.bool false)], args := [d1, d2, d3] }
  | _ => none }
def TapPartsWrongFalsely : Prop := tapPartsRow.holds Try.pinned (OpenSpec.ofChange tapPartsWrong)

/-- 'gantletlaw21.TapHeads': WHATEVER THE INPUT: true; the input reads as it did. -/
def tapHeadsSpec : ChangeSpec := { name := "tapHeads", fn := fun _ => fun
  | [d1, d2, d3] => { results := [.lit (.bool true)], args := [d1, d2, d3] }
  | _ => none }
def tapHeadsRow : OpenClaim := { program := "ytfkfkoebplpooaa", sum := "85cf3375e22e3a3713989b240231e9c96ab983d1b078c3bc4b3eeccc6ed96855", func := "gantlet/gantletlaw21.TapHeads", spec := "tapHeads", inPlace := ["internal/abi.NoEscape", "internal/bytealg.MakeNoZero"], apart := false }
def TapHeadsSaid : Prop := tapHeadsRow.holds Try.pinned (OpenSpec.ofChange tapHeadsSpec)

/-- ITS FALSE NEIGHBOUR: 'it returns false'. Refute it at one input. -/
def tapHeadsWrong : ChangeSpec := { name := "tapHeads", fn := fun _ => fun
  | [d1, d2, d3] => { results := [.lit (.bool false)], args := [d1, d2, d3] }
  | _ => none }
def TapHeadsWrongFalsely : Prop := tapHeadsRow.holds Try.pinned (OpenSpec.ofChange tapHeadsWrong)

/-- 'gantletlaw21.TapPieces': WHATEVER THE INPUT: true; the input reads as it did. -/
def tapPiecesSpec : ChangeSpec := { name := "tapPieces", fn := fun _ => fun
  | [d] => { results := [.lit (.bool true)], args := [d] }
  | _ => none }
def tapPiecesRow : OpenClaim := { program := "ytfkfkoebplpooaa", sum := "85cf3375e22e3a3713989b240231e9c96ab983d1b078c3bc4b3eeccc6ed96855", func := "gantlet/gantletlaw21.TapPieces", spec := "tapPieces", inPlace := ["internal/abi.NoEscape", "internal/bytealg.MakeNoZero"], apart := false }
def TapPiecesSaid : Prop := tapPiecesRow.holds Try.pinned (OpenSpec.ofChange tapPiecesSpec)

/-- ITS FALSE NEIGHBOUR: 'it returns false'. Refute it at one input. -/
def tapPiecesWrong : ChangeSpec := { name := "tapPieces", fn := fun _ => fun
  | [d] => { results := [.lit (.bool false)], args := [d] }
  | _ => none }
def TapPiecesWrongFalsely : Prop := tapPiecesRow.holds Try.pinned (OpenSpec.ofChange tapPiecesWrong)

/- THE SECOND FORM. 'bulk': how many values and letters a reading holds, each counted each time it is reached (what is shared counts as often as it is met; a slice's spare places count too). A statement '..UptoSaid' is the law's where the arguments, and the package variables that the reading takes, are together of bulk at most 1048576: NARROWER than '..Said'. Prove '..Said' where nothing that the law and all that it calls make is longer than what came in: it says more and counts as full. Else prove '..UptoSaid'. A law counts once. -/
mutual
def uptoBulk {H : Type} : DataW H → Nat
  | .lit (.string bytes) => bytes.length + 1
  | .lit _ => 1
  | .nil => 1
  | .ptr d => uptoBulk d + 1
  | .slice elems spare => uptoBulkAll elems + uptoBulkAll spare + 1
  | .agg parts => uptoBulkAll parts + 1
  | .iface _ d => uptoBulk d + 1
  | .map entries => uptoBulkEntries entries + 1
  | .held _ => 1
def uptoBulkAll {H : Type} : List (DataW H) → Nat
  | [] => 0
  | d :: r => uptoBulk d + uptoBulkAll r
def uptoBulkEntries {H : Type} : List (Lit × DataW H) → Nat
  | [] => 0
  | x :: r => uptoBulkEntry x + uptoBulkEntries r
def uptoBulkEntry {H : Type} : Lit × DataW H → Nat
  | (.string bytes, d) => bytes.length + uptoBulk d + 1
  | (_, d) => uptoBulk d + 1
 end
def uptoSmall : (H : Type) → List (DataW H) → Bool := fun _ ds => decide (uptoBulkAll ds ≤ 1048576)
def OpenSpec.upto (s : _root_.Go.ChangeSpec) : _root_.Go.OpenSpec := { _root_.Go.OpenSpec.ofChange s with cond := some uptoSmall }

/-- 'gantletlaw21.TapPlays', WHERE WHAT IT READS IS OF BULK AT MOST 1048576: true; the input reads as it did. -/
def tapPlaysUptoRow : OpenClaim := { program := "ytfkfkoebplpooaa", sum := "85cf3375e22e3a3713989b240231e9c96ab983d1b078c3bc4b3eeccc6ed96855", func := "gantlet/gantletlaw21.TapPlays", spec := "tapPlays", inPlace := ["internal/abi.NoEscape", "internal/bytealg.MakeNoZero"], apart := false, narrowed := true }
def TapPlaysUptoSaid : Prop := tapPlaysUptoRow.holds Try.pinned (OpenSpec.upto tapPlaysSpec)

/-- 'gantletlaw21.TapParts', WHERE WHAT IT READS IS OF BULK AT MOST 1048576: true; the input reads as it did. -/
def tapPartsUptoRow : OpenClaim := { program := "ytfkfkoebplpooaa", sum := "85cf3375e22e3a3713989b240231e9c96ab983d1b078c3bc4b3eeccc6ed96855", func := "gantlet/gantletlaw21.TapParts", spec := "tapParts", inPlace := ["internal/abi.NoEscape", "internal/bytealg.MakeNoZero"], apart := false, narrowed := true }
def TapPartsUptoSaid : Prop := tapPartsUptoRow.holds Try.pinned (OpenSpec.upto tapPartsSpec)

/-- 'gantletlaw21.TapHeads', WHERE WHAT IT READS IS OF BULK AT MOST 1048576: true; the input reads as it did. -/
def tapHeadsUptoRow : OpenClaim := { program := "ytfkfkoebplpooaa", sum := "85cf3375e22e3a3713989b240231e9c96ab983d1b078c3bc4b3eeccc6ed96855", func := "gantlet/gantletlaw21.TapHeads", spec := "tapHeads", inPlace := ["internal/abi.NoEscape", "internal/bytealg.MakeNoZero"], apart := false, narrowed := true }
def TapHeadsUptoSaid : Prop := tapHeadsUptoRow.holds Try.pinned (OpenSpec.upto tapHeadsSpec)

/-- 'gantletlaw21.TapPieces', WHERE WHAT IT READS IS OF BULK AT MOST 1048576: true; the input reads as it did. -/
def tapPiecesUptoRow : OpenClaim := { program := "ytfkfkoebplpooaa", sum := "85cf3375e22e3a3713989b240231e9c96ab983d1b078c3bc4b3eeccc6ed96855", func := "gantlet/gantletlaw21.TapPieces", spec := "tapPieces", inPlace := ["internal/abi.NoEscape", "internal/bytealg.MakeNoZero"], apart := false, narrowed := true }
def TapPiecesUptoSaid : Prop := tapPiecesUptoRow.holds Try.pinned (OpenSpec.upto tapPiecesSpec)

end Rows
end Go.Proofs.Ytfkfkoebplpooaa
