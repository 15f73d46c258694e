/-
  DERIVED. GIVEN WITH THE SEED: THE CARDS: each row of YtlhpmjcdkpfjdaaGreatDoorRows.lean that lists a variable, with what it lists TIED to the program's text (the seventh form; the later family's looks); each row that meets fmt, with fmt's text TOLD by the authors' own Lean function (tested against real Go, not proved from fmt's source: count such statements apart). THE CARD IS WHAT COUNTS. Prove the row's statement (the work); the ties are given (YtlhpmjcdkpfjdaaGreatDoorTie.lean); close each card by the builder's one call (the guide's Derived/Test/ToyasCard.lean, 'card_holds'). Laid BY PROGRAM, IN A SANDBOX (cutbox-door.mjs). By AI agents, Wed Nov 11 2026. No macro, syntax, notation, axiom, sorry.
-/
import Derived.Test.YtlhpmjcdkpfjdaaGreatDoorRows
import GoSem.ClaimSeven
namespace Go.Proofs.YtlhpmjcdkpfjdaaGreatDoor
namespace Rows

/-- THE TIED CARD OF 'carousellaw10.TapeKnown'. -/
def tapeKnownCard : Claim7 := { stood := { row := tapeKnownRow, standIns := [], harness := (true, "5dd07bc40dac12eb311d42cd7d738553bd324646e1b858447b48636fe2f9bd13"), looks := false }, kinds := [], alts := [], laidByText := true, laidKinds := [.data], laidTests := true, laidLooks := .later }
def TapeKnownCardSaid : Prop := Claim7.holds Tryz.pinned (.plain (OpenSpec.ofChange tapeKnownSpec)) tapeKnownCard

/-- THE TIED CARD OF 'carousellaw10.TapePlays'. -/
def tapePlaysCard : Claim7 := { stood := { row := tapePlaysRow, standIns := [], harness := (true, "5dd07bc40dac12eb311d42cd7d738553bd324646e1b858447b48636fe2f9bd13"), looks := false }, kinds := [], alts := [], laidByText := true, laidKinds := [.data], laidTests := true, laidLooks := .later }
def TapePlaysCardSaid : Prop := Claim7.holds Tryz.pinned (.plain (OpenSpec.ofChange tapePlaysSpec)) tapePlaysCard

/-- THE TIED CARD OF 'carousellaw10.TapeFull'. -/
def tapeFullCard : Claim7 := { stood := { row := tapeFullRow, standIns := [], harness := (true, "5dd07bc40dac12eb311d42cd7d738553bd324646e1b858447b48636fe2f9bd13"), looks := false }, kinds := [], alts := [], laidByText := true, laidKinds := [.data], laidTests := true, laidLooks := .later }
def TapeFullCardSaid : Prop := Claim7.holds Tryz.pinned (.plain (OpenSpec.ofChange tapeFullSpec)) tapeFullCard

/-- THE TIED CARD OF 'carousellaw10.TapeKeeps'. -/
def tapeKeepsCard : Claim7 := { stood := { row := tapeKeepsRow, standIns := [], harness := (true, "5dd07bc40dac12eb311d42cd7d738553bd324646e1b858447b48636fe2f9bd13"), looks := false }, kinds := [], alts := [], laidByText := true, laidKinds := [.data], laidTests := true, laidLooks := .later }
def TapeKeepsCardSaid : Prop := Claim7.holds Tryz.pinned (.plain (OpenSpec.ofChange tapeKeepsSpec)) tapeKeepsCard

/-- THE TIED CARD OF 'carousellaw10.TapeOps'. -/
def tapeOpsCard : Claim7 := { stood := { row := tapeOpsRow, standIns := [], harness := (true, "5dd07bc40dac12eb311d42cd7d738553bd324646e1b858447b48636fe2f9bd13"), looks := false }, kinds := [], alts := [], laidByText := true, laidKinds := [.data], laidTests := true, laidLooks := .later }
def TapeOpsCardSaid : Prop := Claim7.holds Tryz.pinned (.plain (OpenSpec.ofChange tapeOpsSpec)) tapeOpsCard

/-- THE SECOND FORM's CARD OF 'carousellaw10.TapeKnown'. -/
def tapeKnownUptoCard : Claim7 := { stood := { row := tapeKnownUptoRow, standIns := [], harness := (true, "5dd07bc40dac12eb311d42cd7d738553bd324646e1b858447b48636fe2f9bd13"), looks := false }, kinds := [], alts := [], laidByText := true, laidKinds := [.data], laidTests := true, laidLooks := .later }
def TapeKnownUptoCardSaid : Prop := Claim7.holds Tryz.pinned (.plain (OpenSpec.upto tapeKnownSpec)) tapeKnownUptoCard

/-- THE SECOND FORM's CARD OF 'carousellaw10.TapePlays'. -/
def tapePlaysUptoCard : Claim7 := { stood := { row := tapePlaysUptoRow, standIns := [], harness := (true, "5dd07bc40dac12eb311d42cd7d738553bd324646e1b858447b48636fe2f9bd13"), looks := false }, kinds := [], alts := [], laidByText := true, laidKinds := [.data], laidTests := true, laidLooks := .later }
def TapePlaysUptoCardSaid : Prop := Claim7.holds Tryz.pinned (.plain (OpenSpec.upto tapePlaysSpec)) tapePlaysUptoCard

/-- THE SECOND FORM's CARD OF 'carousellaw10.TapeFull'. -/
def tapeFullUptoCard : Claim7 := { stood := { row := tapeFullUptoRow, standIns := [], harness := (true, "5dd07bc40dac12eb311d42cd7d738553bd324646e1b858447b48636fe2f9bd13"), looks := false }, kinds := [], alts := [], laidByText := true, laidKinds := [.data], laidTests := true, laidLooks := .later }
def TapeFullUptoCardSaid : Prop := Claim7.holds Tryz.pinned (.plain (OpenSpec.upto tapeFullSpec)) tapeFullUptoCard

/-- THE SECOND FORM's CARD OF 'carousellaw10.TapeKeeps'. -/
def tapeKeepsUptoCard : Claim7 := { stood := { row := tapeKeepsUptoRow, standIns := [], harness := (true, "5dd07bc40dac12eb311d42cd7d738553bd324646e1b858447b48636fe2f9bd13"), looks := false }, kinds := [], alts := [], laidByText := true, laidKinds := [.data], laidTests := true, laidLooks := .later }
def TapeKeepsUptoCardSaid : Prop := Claim7.holds Tryz.pinned (.plain (OpenSpec.upto tapeKeepsSpec)) tapeKeepsUptoCard

/-- THE SECOND FORM's CARD OF 'carousellaw10.TapeOps'. -/
def tapeOpsUptoCard : Claim7 := { stood := { row := tapeOpsUptoRow, standIns := [], harness := (true, "5dd07bc40dac12eb311d42cd7d738553bd324646e1b858447b48636fe2f9bd13"), looks := false }, kinds := [], alts := [], laidByText := true, laidKinds := [.data], laidTests := true, laidLooks := .later }
def TapeOpsUptoCardSaid : Prop := Claim7.holds Tryz.pinned (.plain (OpenSpec.upto tapeOpsSpec)) tapeOpsUptoCard
end Rows
end Go.Proofs.YtlhpmjcdkpfjdaaGreatDoor
