/-
  DERIVED. GIVEN WITH THE SEED: THE CARDS: each row of YtnicknnhboanoabDoorRows.lean that lists a variable, with what it lists TIED to the program's text (the seventh form; the later family's looks); each row that meets fmt, with fmt's text TOLD by the authors' own Lean function (tested against real Go, not proved from fmt's source: count such statements apart). THE CARD IS WHAT COUNTS. Prove the row's statement (the work); the ties are given (YtnicknnhboanoabDoorTie.lean); close each card by the builder's one call (the guide's Derived/Test/ToyasCard.lean, 'card_holds'). Laid BY PROGRAM, IN A SANDBOX (cutbox-door.mjs). By AI agents, Wed Nov 11 2026. No macro, syntax, notation, axiom, sorry.
-/
import Derived.Test.YtnicknnhboanoabDoorRows
import GoSem.ClaimSeven
namespace Go.Proofs.YtnicknnhboanoabDoor
namespace Rows

/-- THE TIED CARD OF 'carousellaw8.ConvWhole'. -/
def convWholeCard : Claim7 := { stood := { row := convWholeRow, standIns := [], harness := (true, "1311d9558ef8f25d03e611adbc9b465657b2b6b7c749f9a1535d7368031a208d"), looks := false }, kinds := [], alts := [], laidByText := true, laidKinds := [.data], laidTests := true, laidLooks := .later }
def ConvWholeCardSaid : Prop := Claim7.holds Tryd.pinned (.plain (OpenSpec.ofChange convWholeSpec)) convWholeCard

/-- THE TIED CARD OF 'carousellaw8.ConvGreatest'. -/
def convGreatestCard : Claim7 := { stood := { row := convGreatestRow, standIns := [], harness := (true, "1311d9558ef8f25d03e611adbc9b465657b2b6b7c749f9a1535d7368031a208d"), looks := false }, kinds := [], alts := [], laidByText := true, laidKinds := [.data], laidTests := true, laidLooks := .later }
def ConvGreatestCardSaid : Prop := Claim7.holds Tryd.pinned (.plain (OpenSpec.ofChange convGreatestSpec)) convGreatestCard

/-- THE SECOND FORM's CARD OF 'carousellaw8.ConvWhole'. -/
def convWholeUptoCard : Claim7 := { stood := { row := convWholeUptoRow, standIns := [], harness := (true, "1311d9558ef8f25d03e611adbc9b465657b2b6b7c749f9a1535d7368031a208d"), looks := false }, kinds := [], alts := [], laidByText := true, laidKinds := [.data], laidTests := true, laidLooks := .later }
def ConvWholeUptoCardSaid : Prop := Claim7.holds Tryd.pinned (.plain (OpenSpec.upto convWholeSpec)) convWholeUptoCard

/-- THE SECOND FORM's CARD OF 'carousellaw8.ConvGreatest'. -/
def convGreatestUptoCard : Claim7 := { stood := { row := convGreatestUptoRow, standIns := [], harness := (true, "1311d9558ef8f25d03e611adbc9b465657b2b6b7c749f9a1535d7368031a208d"), looks := false }, kinds := [], alts := [], laidByText := true, laidKinds := [.data], laidTests := true, laidLooks := .later }
def ConvGreatestUptoCardSaid : Prop := Claim7.holds Tryd.pinned (.plain (OpenSpec.upto convGreatestSpec)) convGreatestUptoCard
end Rows
end Go.Proofs.YtnicknnhboanoabDoor
