/-
  DERIVED. GIVEN WITH THE SEED: THE CARDS: each row of YtcpbhhlepdgdkaaGreatDoorRows.lean that lists a variable, with what it lists TIED to the program's text (the seventh form; the later family's looks); each row that meets fmt, with fmt's text TOLD by the authors' own Lean function (tested against real Go, not proved from fmt's source: count such statements apart). THE CARD IS WHAT COUNTS. Prove the row's statement (the work); the ties are given (YtcpbhhlepdgdkaaGreatDoorTie.lean); close each card by the builder's one call (the guide's Derived/Test/ToyasCard.lean, 'card_holds'). Laid BY PROGRAM, IN A SANDBOX (cutbox-door.mjs). By AI agents, Wed Nov 11 2026. No macro, syntax, notation, axiom, sorry.
-/
import Derived.Test.YtcpbhhlepdgdkaaGreatDoorRows
import GoSem.ClaimSeven
namespace Go.Proofs.YtcpbhhlepdgdkaaGreatDoor
namespace Rows

/-- THE TIED CARD OF 'carousellaw14.GradTwice'. -/
def gradTwiceCard : Claim7 := { stood := { row := gradTwiceRow, standIns := [], harness := (true, "c608bc4aaa1be4bc65737b658e4e2e3ee02e1ad2fa265ef73c81e5bce79ec37f"), looks := false }, kinds := [], alts := [], laidByText := true, laidKinds := [.data, .data], laidTests := true, laidLooks := .later }
def GradTwiceCardSaid : Prop := Claim7.holds Tryz.pinned (.plain (OpenSpec.ofChange gradTwiceSpec)) gradTwiceCard

/-- THE SECOND FORM's CARD OF 'carousellaw14.GradTwice'. -/
def gradTwiceUptoCard : Claim7 := { stood := { row := gradTwiceUptoRow, standIns := [], harness := (true, "c608bc4aaa1be4bc65737b658e4e2e3ee02e1ad2fa265ef73c81e5bce79ec37f"), looks := false }, kinds := [], alts := [], laidByText := true, laidKinds := [.data, .data], laidTests := true, laidLooks := .later }
def GradTwiceUptoCardSaid : Prop := Claim7.holds Tryz.pinned (.plain (OpenSpec.upto gradTwiceSpec)) gradTwiceUptoCard
end Rows
end Go.Proofs.YtcpbhhlepdgdkaaGreatDoor
