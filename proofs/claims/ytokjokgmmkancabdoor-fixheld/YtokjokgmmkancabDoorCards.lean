/-
  DERIVED. GIVEN WITH THE SEED: THE CARDS: each row of YtokjokgmmkancabDoorRows.lean that lists a variable, with what it lists TIED to the program's text (the seventh form; the later family's looks); each row that meets fmt, with fmt's text TOLD by the authors' own Lean function (tested against real Go, not proved from fmt's source: count such statements apart). THE CARD IS WHAT COUNTS. Prove the row's statement (the work); the ties are given (YtokjokgmmkancabDoorTie.lean); close each card by the builder's one call (the guide's Derived/Test/ToyasCard.lean, 'card_holds'). Laid BY PROGRAM, IN A SANDBOX (cutbox-door.mjs). By AI agents, Wed Nov 11 2026. No macro, syntax, notation, axiom, sorry.
-/
import Derived.Test.YtokjokgmmkancabDoorRows
import GoSem.ClaimSeven
namespace Go.Proofs.YtokjokgmmkancabDoor
namespace Rows

/-- THE TIED CARD OF 'carousellaw1.FixHeld'. -/
def fixHeldCard : Claim7 := { stood := { row := fixHeldRow, standIns := [], harness := (true, "dc29814d4ec737f1a60828024b1f606078ad63e54d8553e13bfa11826e93567b"), looks := false }, kinds := [], alts := [], laidByText := true, laidKinds := [.data, .data, .data], laidTests := true, laidLooks := .later }
def FixHeldCardSaid : Prop := Claim7.holds Tryd.pinned (.plain (OpenSpec.ofChange fixHeldSpec)) fixHeldCard

/-- THE TIED CARD OF 'carousellaw1.FixWhole'. -/
def fixWholeCard : Claim7 := { stood := { row := fixWholeRow, standIns := [], harness := (true, "dc29814d4ec737f1a60828024b1f606078ad63e54d8553e13bfa11826e93567b"), looks := false }, kinds := [], alts := [], laidByText := true, laidKinds := [.data, .data, .data], laidTests := true, laidLooks := .later }
def FixWholeCardSaid : Prop := Claim7.holds Tryd.pinned (.plain (OpenSpec.ofChange fixWholeSpec)) fixWholeCard

/-- THE SECOND FORM's CARD OF 'carousellaw1.FixHeld'. -/
def fixHeldUptoCard : Claim7 := { stood := { row := fixHeldUptoRow, standIns := [], harness := (true, "dc29814d4ec737f1a60828024b1f606078ad63e54d8553e13bfa11826e93567b"), looks := false }, kinds := [], alts := [], laidByText := true, laidKinds := [.data, .data, .data], laidTests := true, laidLooks := .later }
def FixHeldUptoCardSaid : Prop := Claim7.holds Tryd.pinned (.plain (OpenSpec.upto fixHeldSpec)) fixHeldUptoCard

/-- THE SECOND FORM's CARD OF 'carousellaw1.FixWhole'. -/
def fixWholeUptoCard : Claim7 := { stood := { row := fixWholeUptoRow, standIns := [], harness := (true, "dc29814d4ec737f1a60828024b1f606078ad63e54d8553e13bfa11826e93567b"), looks := false }, kinds := [], alts := [], laidByText := true, laidKinds := [.data, .data, .data], laidTests := true, laidLooks := .later }
def FixWholeUptoCardSaid : Prop := Claim7.holds Tryd.pinned (.plain (OpenSpec.upto fixWholeSpec)) fixWholeUptoCard
end Rows
end Go.Proofs.YtokjokgmmkancabDoor
