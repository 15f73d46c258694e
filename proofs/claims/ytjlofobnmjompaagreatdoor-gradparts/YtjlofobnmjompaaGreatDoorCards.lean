/-
  DERIVED. GIVEN WITH THE SEED: THE CARDS: each row of YtjlofobnmjompaaGreatDoorRows.lean that lists a variable, with what it lists TIED to the program's text (the seventh form; the later family's looks); each row that meets fmt, with fmt's text TOLD by the authors' own Lean function (tested against real Go, not proved from fmt's source: count such statements apart). THE CARD IS WHAT COUNTS. Prove the row's statement (the work); the ties are given (YtjlofobnmjompaaGreatDoorTie.lean); close each card by the builder's one call (the guide's Derived/Test/ToyasCard.lean, 'card_holds'). Laid BY PROGRAM, IN A SANDBOX (cutbox-door.mjs). By AI agents, Wed Nov 11 2026. No macro, syntax, notation, axiom, sorry.
-/
import Derived.Test.YtjlofobnmjompaaGreatDoorRows
import GoSem.ClaimSeven
namespace Go.Proofs.YtjlofobnmjompaaGreatDoor
namespace Rows

/-- THE TIED CARD OF 'carousellaw14.GradKnown'. -/
def gradKnownCard : Claim7 := { stood := { row := gradKnownRow, standIns := [], harness := (true, "acc897ed8dcb217ac1db3067cb14f79e652dc8b1e40f7b440cbb97e8e0451719"), looks := false }, kinds := [], alts := [], laidByText := true, laidKinds := [.data, .data], laidTests := true, laidLooks := .later }
def GradKnownCardSaid : Prop := Claim7.holds Tryz.pinned (.plain (OpenSpec.ofChange gradKnownSpec)) gradKnownCard

/-- THE TIED CARD OF 'carousellaw14.GradParts'. -/
def gradPartsCard : Claim7 := { stood := { row := gradPartsRow, standIns := [], harness := (true, "acc897ed8dcb217ac1db3067cb14f79e652dc8b1e40f7b440cbb97e8e0451719"), looks := false }, kinds := [], alts := [], laidByText := true, laidKinds := [.data, .data], laidTests := true, laidLooks := .later }
def GradPartsCardSaid : Prop := Claim7.holds Tryz.pinned (.plain (OpenSpec.ofChange gradPartsSpec)) gradPartsCard

/-- THE TIED CARD OF 'carousellaw14.GradJoins'. -/
def gradJoinsCard : Claim7 := { stood := { row := gradJoinsRow, standIns := [], harness := (true, "acc897ed8dcb217ac1db3067cb14f79e652dc8b1e40f7b440cbb97e8e0451719"), looks := false }, kinds := [], alts := [], laidByText := true, laidKinds := [.data, .data], laidTests := true, laidLooks := .later }
def GradJoinsCardSaid : Prop := Claim7.holds Tryz.pinned (.plain (OpenSpec.ofChange gradJoinsSpec)) gradJoinsCard

/-- THE TIED CARD OF 'carousellaw14.GradTwice'. -/
def gradTwiceCard : Claim7 := { stood := { row := gradTwiceRow, standIns := [], harness := (true, "acc897ed8dcb217ac1db3067cb14f79e652dc8b1e40f7b440cbb97e8e0451719"), looks := false }, kinds := [], alts := [], laidByText := true, laidKinds := [.data, .data], laidTests := true, laidLooks := .later }
def GradTwiceCardSaid : Prop := Claim7.holds Tryz.pinned (.plain (OpenSpec.ofChange gradTwiceSpec)) gradTwiceCard

/-- THE TIED CARD OF 'carousellaw14.GradTurns'. -/
def gradTurnsCard : Claim7 := { stood := { row := gradTurnsRow, standIns := [], harness := (true, "acc897ed8dcb217ac1db3067cb14f79e652dc8b1e40f7b440cbb97e8e0451719"), looks := false }, kinds := [], alts := [], laidByText := true, laidKinds := [.data, .data], laidTests := true, laidLooks := .later }
def GradTurnsCardSaid : Prop := Claim7.holds Tryz.pinned (.plain (OpenSpec.ofChange gradTurnsSpec)) gradTurnsCard

/-- THE SECOND FORM's CARD OF 'carousellaw14.GradKnown'. -/
def gradKnownUptoCard : Claim7 := { stood := { row := gradKnownUptoRow, standIns := [], harness := (true, "acc897ed8dcb217ac1db3067cb14f79e652dc8b1e40f7b440cbb97e8e0451719"), looks := false }, kinds := [], alts := [], laidByText := true, laidKinds := [.data, .data], laidTests := true, laidLooks := .later }
def GradKnownUptoCardSaid : Prop := Claim7.holds Tryz.pinned (.plain (OpenSpec.upto gradKnownSpec)) gradKnownUptoCard

/-- THE SECOND FORM's CARD OF 'carousellaw14.GradParts'. -/
def gradPartsUptoCard : Claim7 := { stood := { row := gradPartsUptoRow, standIns := [], harness := (true, "acc897ed8dcb217ac1db3067cb14f79e652dc8b1e40f7b440cbb97e8e0451719"), looks := false }, kinds := [], alts := [], laidByText := true, laidKinds := [.data, .data], laidTests := true, laidLooks := .later }
def GradPartsUptoCardSaid : Prop := Claim7.holds Tryz.pinned (.plain (OpenSpec.upto gradPartsSpec)) gradPartsUptoCard

/-- THE SECOND FORM's CARD OF 'carousellaw14.GradJoins'. -/
def gradJoinsUptoCard : Claim7 := { stood := { row := gradJoinsUptoRow, standIns := [], harness := (true, "acc897ed8dcb217ac1db3067cb14f79e652dc8b1e40f7b440cbb97e8e0451719"), looks := false }, kinds := [], alts := [], laidByText := true, laidKinds := [.data, .data], laidTests := true, laidLooks := .later }
def GradJoinsUptoCardSaid : Prop := Claim7.holds Tryz.pinned (.plain (OpenSpec.upto gradJoinsSpec)) gradJoinsUptoCard

/-- THE SECOND FORM's CARD OF 'carousellaw14.GradTwice'. -/
def gradTwiceUptoCard : Claim7 := { stood := { row := gradTwiceUptoRow, standIns := [], harness := (true, "acc897ed8dcb217ac1db3067cb14f79e652dc8b1e40f7b440cbb97e8e0451719"), looks := false }, kinds := [], alts := [], laidByText := true, laidKinds := [.data, .data], laidTests := true, laidLooks := .later }
def GradTwiceUptoCardSaid : Prop := Claim7.holds Tryz.pinned (.plain (OpenSpec.upto gradTwiceSpec)) gradTwiceUptoCard

/-- THE SECOND FORM's CARD OF 'carousellaw14.GradTurns'. -/
def gradTurnsUptoCard : Claim7 := { stood := { row := gradTurnsUptoRow, standIns := [], harness := (true, "acc897ed8dcb217ac1db3067cb14f79e652dc8b1e40f7b440cbb97e8e0451719"), looks := false }, kinds := [], alts := [], laidByText := true, laidKinds := [.data, .data], laidTests := true, laidLooks := .later }
def GradTurnsUptoCardSaid : Prop := Claim7.holds Tryz.pinned (.plain (OpenSpec.upto gradTurnsSpec)) gradTurnsUptoCard
end Rows
end Go.Proofs.YtjlofobnmjompaaGreatDoor
