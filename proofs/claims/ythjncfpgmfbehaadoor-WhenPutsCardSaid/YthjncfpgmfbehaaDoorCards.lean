/-
  DERIVED. GIVEN WITH THE SEED: THE CARDS: each row of YthjncfpgmfbehaaDoorRows.lean that lists a variable, with what it lists TIED to the program's text (the seventh form; the later family's looks); each row that meets fmt, with fmt's text TOLD by the authors' own Lean function (tested against real Go, not proved from fmt's source: count such statements apart). THE CARD IS WHAT COUNTS. Prove the row's statement (the work); the ties are given (YthjncfpgmfbehaaDoorTie.lean); close each card by the builder's one call (the guide's Derived/Test/ToyasCard.lean, 'card_holds'). Laid BY PROGRAM, IN A SANDBOX (cutbox-door.mjs). By AI agents, Wed Nov 11 2026. No macro, syntax, notation, axiom, sorry.
-/
import Derived.Test.YthjncfpgmfbehaaDoorRows
import GoSem.ClaimSeven
namespace Go.Proofs.YthjncfpgmfbehaaDoor
namespace Rows

/-- THE TIED CARD OF 'gantletlaw13.WhenChecks'. -/
def whenChecksCard : Claim7 := { stood := { row := whenChecksRow, standIns := [], harness := (true, "f5700ff2ca4e5005ee13aea152c46b85de029fe89b7c0198a8431fada0af7d67"), looks := false }, kinds := [], alts := [], laidByText := true, laidKinds := [.data, .data, .data], laidTests := true, laidLooks := .later }
def WhenChecksCardSaid : Prop := Claim7.holds Tryd.pinned (.plain (OpenSpec.ofChange whenChecksSpec)) whenChecksCard

/-- THE TIED CARD OF 'gantletlaw13.WhenPuts'. -/
def whenPutsCard : Claim7 := { stood := { row := whenPutsRow, standIns := [], harness := (true, "f5700ff2ca4e5005ee13aea152c46b85de029fe89b7c0198a8431fada0af7d67"), looks := false }, kinds := [], alts := [], laidByText := true, laidKinds := [.data, .data, .data], laidTests := true, laidLooks := .later }
def WhenPutsCardSaid : Prop := Claim7.holds Tryd.pinned (.plain (OpenSpec.ofChange whenPutsSpec)) whenPutsCard

/-- THE TIED CARD OF 'gantletlaw13.WhenBack'. -/
def whenBackCard : Claim7 := { stood := { row := whenBackRow, standIns := [], harness := (true, "f5700ff2ca4e5005ee13aea152c46b85de029fe89b7c0198a8431fada0af7d67"), looks := false }, kinds := [], alts := [], laidByText := true, laidKinds := [.data, .data, .data], laidTests := true, laidLooks := .later }
def WhenBackCardSaid : Prop := Claim7.holds Tryd.pinned (.plain (OpenSpec.ofChange whenBackSpec)) whenBackCard

/-- THE TIED CARD OF 'gantletlaw13.WhenOne'. -/
def whenOneCard : Claim7 := { stood := { row := whenOneRow, standIns := [], harness := (true, "f5700ff2ca4e5005ee13aea152c46b85de029fe89b7c0198a8431fada0af7d67"), looks := false }, kinds := [], alts := [], laidByText := true, laidKinds := [.data, .data, .data], laidTests := true, laidLooks := .later }
def WhenOneCardSaid : Prop := Claim7.holds Tryd.pinned (.plain (OpenSpec.ofChange whenOneSpec)) whenOneCard

/-- THE TIED CARD OF 'gantletlaw13.WhenDays'. -/
def whenDaysCard : Claim7 := { stood := { row := whenDaysRow, standIns := [], harness := (true, "f5700ff2ca4e5005ee13aea152c46b85de029fe89b7c0198a8431fada0af7d67"), looks := false }, kinds := [], alts := [], laidByText := true, laidKinds := [.data, .data, .data], laidTests := true, laidLooks := .later }
def WhenDaysCardSaid : Prop := Claim7.holds Tryd.pinned (.plain (OpenSpec.ofChange whenDaysSpec)) whenDaysCard

/-- THE TIED CARD OF 'gantletlaw13.WhenOrder'. -/
def whenOrderCard : Claim7 := { stood := { row := whenOrderRow, standIns := [], harness := (true, "f5700ff2ca4e5005ee13aea152c46b85de029fe89b7c0198a8431fada0af7d67"), looks := false }, kinds := [], alts := [], laidByText := true, laidKinds := [.data, .data, .data], laidTests := true, laidLooks := .later }
def WhenOrderCardSaid : Prop := Claim7.holds Tryd.pinned (.plain (OpenSpec.ofChange whenOrderSpec)) whenOrderCard

/-- THE SECOND FORM's CARD OF 'gantletlaw13.WhenChecks'. -/
def whenChecksUptoCard : Claim7 := { stood := { row := whenChecksUptoRow, standIns := [], harness := (true, "f5700ff2ca4e5005ee13aea152c46b85de029fe89b7c0198a8431fada0af7d67"), looks := false }, kinds := [], alts := [], laidByText := true, laidKinds := [.data, .data, .data], laidTests := true, laidLooks := .later }
def WhenChecksUptoCardSaid : Prop := Claim7.holds Tryd.pinned (.plain (OpenSpec.upto whenChecksSpec)) whenChecksUptoCard

/-- THE SECOND FORM's CARD OF 'gantletlaw13.WhenPuts'. -/
def whenPutsUptoCard : Claim7 := { stood := { row := whenPutsUptoRow, standIns := [], harness := (true, "f5700ff2ca4e5005ee13aea152c46b85de029fe89b7c0198a8431fada0af7d67"), looks := false }, kinds := [], alts := [], laidByText := true, laidKinds := [.data, .data, .data], laidTests := true, laidLooks := .later }
def WhenPutsUptoCardSaid : Prop := Claim7.holds Tryd.pinned (.plain (OpenSpec.upto whenPutsSpec)) whenPutsUptoCard

/-- THE SECOND FORM's CARD OF 'gantletlaw13.WhenBack'. -/
def whenBackUptoCard : Claim7 := { stood := { row := whenBackUptoRow, standIns := [], harness := (true, "f5700ff2ca4e5005ee13aea152c46b85de029fe89b7c0198a8431fada0af7d67"), looks := false }, kinds := [], alts := [], laidByText := true, laidKinds := [.data, .data, .data], laidTests := true, laidLooks := .later }
def WhenBackUptoCardSaid : Prop := Claim7.holds Tryd.pinned (.plain (OpenSpec.upto whenBackSpec)) whenBackUptoCard

/-- THE SECOND FORM's CARD OF 'gantletlaw13.WhenOne'. -/
def whenOneUptoCard : Claim7 := { stood := { row := whenOneUptoRow, standIns := [], harness := (true, "f5700ff2ca4e5005ee13aea152c46b85de029fe89b7c0198a8431fada0af7d67"), looks := false }, kinds := [], alts := [], laidByText := true, laidKinds := [.data, .data, .data], laidTests := true, laidLooks := .later }
def WhenOneUptoCardSaid : Prop := Claim7.holds Tryd.pinned (.plain (OpenSpec.upto whenOneSpec)) whenOneUptoCard

/-- THE SECOND FORM's CARD OF 'gantletlaw13.WhenDays'. -/
def whenDaysUptoCard : Claim7 := { stood := { row := whenDaysUptoRow, standIns := [], harness := (true, "f5700ff2ca4e5005ee13aea152c46b85de029fe89b7c0198a8431fada0af7d67"), looks := false }, kinds := [], alts := [], laidByText := true, laidKinds := [.data, .data, .data], laidTests := true, laidLooks := .later }
def WhenDaysUptoCardSaid : Prop := Claim7.holds Tryd.pinned (.plain (OpenSpec.upto whenDaysSpec)) whenDaysUptoCard

/-- THE SECOND FORM's CARD OF 'gantletlaw13.WhenOrder'. -/
def whenOrderUptoCard : Claim7 := { stood := { row := whenOrderUptoRow, standIns := [], harness := (true, "f5700ff2ca4e5005ee13aea152c46b85de029fe89b7c0198a8431fada0af7d67"), looks := false }, kinds := [], alts := [], laidByText := true, laidKinds := [.data, .data, .data], laidTests := true, laidLooks := .later }
def WhenOrderUptoCardSaid : Prop := Claim7.holds Tryd.pinned (.plain (OpenSpec.upto whenOrderSpec)) whenOrderUptoCard
end Rows
end Go.Proofs.YthjncfpgmfbehaaDoor
