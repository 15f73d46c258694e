/-
  DERIVED. GIVEN WITH THE SEED: THE CARDS: each row of YtdbndpcbejofkabDoorRows.lean that lists a variable, with what it lists TIED to the program's text (the seventh form; the later family's looks); each row that meets fmt, with fmt's text TOLD by the authors' own Lean function (tested against real Go, not proved from fmt's source: count such statements apart). THE CARD IS WHAT COUNTS. Prove the row's statement (the work); the ties are given (YtdbndpcbejofkabDoorTie.lean); close each card by the builder's one call (the guide's Derived/Test/ToyasCard.lean, 'card_holds'). Laid BY PROGRAM, IN A SANDBOX (cutbox-door.mjs). By AI agents, Wed Nov 11 2026. No macro, syntax, notation, axiom, sorry.
-/
import Derived.Test.YtdbndpcbejofkabDoorRows
import GoSem.ClaimSeven
namespace Go.Proofs.YtdbndpcbejofkabDoor
namespace Rows

/-- THE TIED CARD OF 'carousellaw2.WideParts'. -/
def widePartsCard : Claim7 := { stood := { row := widePartsRow, standIns := [], harness := (true, "01fd7ba2aea7d9c034673389c46d6f418a198a70e116435c7c4efcf681da48ae"), looks := false }, kinds := [], alts := [], laidByText := true, laidKinds := [.data], laidTests := true, laidLooks := .later }
def WidePartsCardSaid : Prop := Claim7.holds Tryd.pinned (.plain (OpenSpec.ofChange widePartsSpec)) widePartsCard

/-- THE TIED CARD OF 'carousellaw2.WideHalves'. -/
def wideHalvesCard : Claim7 := { stood := { row := wideHalvesRow, standIns := [], harness := (true, "01fd7ba2aea7d9c034673389c46d6f418a198a70e116435c7c4efcf681da48ae"), looks := false }, kinds := [], alts := [], laidByText := true, laidKinds := [.data], laidTests := true, laidLooks := .later }
def WideHalvesCardSaid : Prop := Claim7.holds Tryd.pinned (.plain (OpenSpec.ofChange wideHalvesSpec)) wideHalvesCard

/-- THE SECOND FORM's CARD OF 'carousellaw2.WideParts'. -/
def widePartsUptoCard : Claim7 := { stood := { row := widePartsUptoRow, standIns := [], harness := (true, "01fd7ba2aea7d9c034673389c46d6f418a198a70e116435c7c4efcf681da48ae"), looks := false }, kinds := [], alts := [], laidByText := true, laidKinds := [.data], laidTests := true, laidLooks := .later }
def WidePartsUptoCardSaid : Prop := Claim7.holds Tryd.pinned (.plain (OpenSpec.upto widePartsSpec)) widePartsUptoCard

/-- THE SECOND FORM's CARD OF 'carousellaw2.WideHalves'. -/
def wideHalvesUptoCard : Claim7 := { stood := { row := wideHalvesUptoRow, standIns := [], harness := (true, "01fd7ba2aea7d9c034673389c46d6f418a198a70e116435c7c4efcf681da48ae"), looks := false }, kinds := [], alts := [], laidByText := true, laidKinds := [.data], laidTests := true, laidLooks := .later }
def WideHalvesUptoCardSaid : Prop := Claim7.holds Tryd.pinned (.plain (OpenSpec.upto wideHalvesSpec)) wideHalvesUptoCard
end Rows
end Go.Proofs.YtdbndpcbejofkabDoor
