/-
  DERIVED. GIVEN WITH THE SEED: THE CARDS: each row of YtiecbagejdcafaaGreatDoorRows.lean that lists a variable, with what it lists TIED to the program's text (the seventh form; the later family's looks); each row that meets fmt, with fmt's text TOLD by the authors' own Lean function (tested against real Go, not proved from fmt's source: count such statements apart). THE CARD IS WHAT COUNTS. Prove the row's statement (the work); the ties are given (YtiecbagejdcafaaGreatDoorTie.lean); close each card by the builder's one call (the guide's Derived/Test/ToyasCard.lean, 'card_holds'). Laid BY PROGRAM, IN A SANDBOX (cutbox-door.mjs). By AI agents, Wed Nov 11 2026. No macro, syntax, notation, axiom, sorry.
-/
import Derived.Test.YtiecbagejdcafaaGreatDoorRows
import GoSem.ClaimSeven
namespace Go.Proofs.YtiecbagejdcafaaGreatDoor
namespace Rows

/-- THE TIED CARD OF 'gantletlaw19.EncodeLists'. -/
def encodeListsCard : Claim7 := { stood := { row := encodeListsRow, standIns := [], harness := (true, "c72f1c9bd4439f5d05624032c6657c87e3c21f75c48355057e7ef1c8786fca72"), looks := false }, kinds := [], alts := [], laidByText := true, laidKinds := [.data, .data, .data], laidTests := true, laidLooks := .later }
def EncodeListsCardSaid : Prop := Claim7.holds Tryz.pinned (.plain (OpenSpec.ofChange encodeListsSpec)) encodeListsCard

/-- THE TIED CARD OF 'gantletlaw19.EncodeParts'. -/
def encodePartsCard : Claim7 := { stood := { row := encodePartsRow, standIns := [], harness := (true, "c72f1c9bd4439f5d05624032c6657c87e3c21f75c48355057e7ef1c8786fca72"), looks := false }, kinds := [], alts := [], laidByText := true, laidKinds := [.data, .data, .data], laidTests := true, laidLooks := .later }
def EncodePartsCardSaid : Prop := Claim7.holds Tryz.pinned (.plain (OpenSpec.ofChange encodePartsSpec)) encodePartsCard

/-- THE TIED CARD OF 'gantletlaw19.EncodeRight'. -/
def encodeRightCard : Claim7 := { stood := { row := encodeRightRow, standIns := [], harness := (true, "c72f1c9bd4439f5d05624032c6657c87e3c21f75c48355057e7ef1c8786fca72"), looks := false }, kinds := [], alts := [], laidByText := true, laidKinds := [.data, .data, .data], laidTests := true, laidLooks := .later }
def EncodeRightCardSaid : Prop := Claim7.holds Tryz.pinned (.plain (OpenSpec.ofChange encodeRightSpec)) encodeRightCard

/-- THE TIED CARD OF 'gantletlaw19.EncodeSorts'. -/
def encodeSortsCard : Claim7 := { stood := { row := encodeSortsRow, standIns := [], harness := (true, "c72f1c9bd4439f5d05624032c6657c87e3c21f75c48355057e7ef1c8786fca72"), looks := false }, kinds := [], alts := [], laidByText := true, laidKinds := [.data, .data, .data], laidTests := true, laidLooks := .later }
def EncodeSortsCardSaid : Prop := Claim7.holds Tryz.pinned (.plain (OpenSpec.ofChange encodeSortsSpec)) encodeSortsCard

/-- THE TIED CARD OF 'gantletlaw19.EncodeSigned'. -/
def encodeSignedCard : Claim7 := { stood := { row := encodeSignedRow, standIns := [], harness := (true, "c72f1c9bd4439f5d05624032c6657c87e3c21f75c48355057e7ef1c8786fca72"), looks := false }, kinds := [], alts := [], laidByText := true, laidKinds := [.data, .data, .data], laidTests := true, laidLooks := .later }
def EncodeSignedCardSaid : Prop := Claim7.holds Tryz.pinned (.plain (OpenSpec.ofChange encodeSignedSpec)) encodeSignedCard

/-- THE TIED CARD OF 'gantletlaw19.EncodeOne'. -/
def encodeOneCard : Claim7 := { stood := { row := encodeOneRow, standIns := [], harness := (true, "c72f1c9bd4439f5d05624032c6657c87e3c21f75c48355057e7ef1c8786fca72"), looks := false }, kinds := [], alts := [], laidByText := true, laidKinds := [.data, .data, .data], laidTests := true, laidLooks := .later }
def EncodeOneCardSaid : Prop := Claim7.holds Tryz.pinned (.plain (OpenSpec.ofChange encodeOneSpec)) encodeOneCard

/-- THE SECOND FORM's CARD OF 'gantletlaw19.EncodeLists'. -/
def encodeListsUptoCard : Claim7 := { stood := { row := encodeListsUptoRow, standIns := [], harness := (true, "c72f1c9bd4439f5d05624032c6657c87e3c21f75c48355057e7ef1c8786fca72"), looks := false }, kinds := [], alts := [], laidByText := true, laidKinds := [.data, .data, .data], laidTests := true, laidLooks := .later }
def EncodeListsUptoCardSaid : Prop := Claim7.holds Tryz.pinned (.plain (OpenSpec.upto encodeListsSpec)) encodeListsUptoCard

/-- THE SECOND FORM's CARD OF 'gantletlaw19.EncodeParts'. -/
def encodePartsUptoCard : Claim7 := { stood := { row := encodePartsUptoRow, standIns := [], harness := (true, "c72f1c9bd4439f5d05624032c6657c87e3c21f75c48355057e7ef1c8786fca72"), looks := false }, kinds := [], alts := [], laidByText := true, laidKinds := [.data, .data, .data], laidTests := true, laidLooks := .later }
def EncodePartsUptoCardSaid : Prop := Claim7.holds Tryz.pinned (.plain (OpenSpec.upto encodePartsSpec)) encodePartsUptoCard

/-- THE SECOND FORM's CARD OF 'gantletlaw19.EncodeRight'. -/
def encodeRightUptoCard : Claim7 := { stood := { row := encodeRightUptoRow, standIns := [], harness := (true, "c72f1c9bd4439f5d05624032c6657c87e3c21f75c48355057e7ef1c8786fca72"), looks := false }, kinds := [], alts := [], laidByText := true, laidKinds := [.data, .data, .data], laidTests := true, laidLooks := .later }
def EncodeRightUptoCardSaid : Prop := Claim7.holds Tryz.pinned (.plain (OpenSpec.upto encodeRightSpec)) encodeRightUptoCard

/-- THE SECOND FORM's CARD OF 'gantletlaw19.EncodeSorts'. -/
def encodeSortsUptoCard : Claim7 := { stood := { row := encodeSortsUptoRow, standIns := [], harness := (true, "c72f1c9bd4439f5d05624032c6657c87e3c21f75c48355057e7ef1c8786fca72"), looks := false }, kinds := [], alts := [], laidByText := true, laidKinds := [.data, .data, .data], laidTests := true, laidLooks := .later }
def EncodeSortsUptoCardSaid : Prop := Claim7.holds Tryz.pinned (.plain (OpenSpec.upto encodeSortsSpec)) encodeSortsUptoCard

/-- THE SECOND FORM's CARD OF 'gantletlaw19.EncodeSigned'. -/
def encodeSignedUptoCard : Claim7 := { stood := { row := encodeSignedUptoRow, standIns := [], harness := (true, "c72f1c9bd4439f5d05624032c6657c87e3c21f75c48355057e7ef1c8786fca72"), looks := false }, kinds := [], alts := [], laidByText := true, laidKinds := [.data, .data, .data], laidTests := true, laidLooks := .later }
def EncodeSignedUptoCardSaid : Prop := Claim7.holds Tryz.pinned (.plain (OpenSpec.upto encodeSignedSpec)) encodeSignedUptoCard

/-- THE SECOND FORM's CARD OF 'gantletlaw19.EncodeOne'. -/
def encodeOneUptoCard : Claim7 := { stood := { row := encodeOneUptoRow, standIns := [], harness := (true, "c72f1c9bd4439f5d05624032c6657c87e3c21f75c48355057e7ef1c8786fca72"), looks := false }, kinds := [], alts := [], laidByText := true, laidKinds := [.data, .data, .data], laidTests := true, laidLooks := .later }
def EncodeOneUptoCardSaid : Prop := Claim7.holds Tryz.pinned (.plain (OpenSpec.upto encodeOneSpec)) encodeOneUptoCard
end Rows
end Go.Proofs.YtiecbagejdcafaaGreatDoor
