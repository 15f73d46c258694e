/-
  DERIVED. GIVEN WITH THE SEED: THE CARDS: each row of YtaiigfhicaelkabGreatDoorRows.lean that lists a variable, with what it lists TIED to the program's text (the seventh form; the later family's looks); each row that meets fmt, with fmt's text TOLD by the authors' own Lean function (tested against real Go, not proved from fmt's source: count such statements apart). THE CARD IS WHAT COUNTS. Prove the row's statement (the work); the ties are given (YtaiigfhicaelkabGreatDoorTie.lean); close each card by the builder's one call (the guide's Derived/Test/ToyasCard.lean, 'card_holds'). Laid BY PROGRAM, IN A SANDBOX (cutbox-door.mjs). By AI agents, Wed Nov 11 2026. No macro, syntax, notation, axiom, sorry.
-/
import Derived.Test.YtaiigfhicaelkabGreatDoorRows
import GoSem.ClaimSeven
namespace Go.Proofs.YtaiigfhicaelkabGreatDoor
namespace Rows

/-- THE TIED CARD OF 'carousellaw11.BackChain'. -/
def backChainCard : Claim7 := { stood := { row := backChainRow, standIns := [], harness := (true, "403ede05e5db58cb7c656bda139890c4b2e9c527b2e06a82cc185a510a3ec25d"), looks := false }, kinds := [], alts := [], laidByText := true, laidKinds := [.data], laidTests := true, laidLooks := .later }
def BackChainCardSaid : Prop := Claim7.holds Tryz.pinned (.plain (OpenSpec.ofChange backChainSpec)) backChainCard

/-- THE TIED CARD OF 'carousellaw11.BackTwice'. -/
def backTwiceCard : Claim7 := { stood := { row := backTwiceRow, standIns := [], harness := (true, "403ede05e5db58cb7c656bda139890c4b2e9c527b2e06a82cc185a510a3ec25d"), looks := false }, kinds := [], alts := [], laidByText := true, laidKinds := [.data], laidTests := true, laidLooks := .later }
def BackTwiceCardSaid : Prop := Claim7.holds Tryz.pinned (.plain (OpenSpec.ofChange backTwiceSpec)) backTwiceCard

/-- THE SECOND FORM's CARD OF 'carousellaw11.BackChain'. -/
def backChainUptoCard : Claim7 := { stood := { row := backChainUptoRow, standIns := [], harness := (true, "403ede05e5db58cb7c656bda139890c4b2e9c527b2e06a82cc185a510a3ec25d"), looks := false }, kinds := [], alts := [], laidByText := true, laidKinds := [.data], laidTests := true, laidLooks := .later }
def BackChainUptoCardSaid : Prop := Claim7.holds Tryz.pinned (.plain (OpenSpec.upto backChainSpec)) backChainUptoCard

/-- THE SECOND FORM's CARD OF 'carousellaw11.BackTwice'. -/
def backTwiceUptoCard : Claim7 := { stood := { row := backTwiceUptoRow, standIns := [], harness := (true, "403ede05e5db58cb7c656bda139890c4b2e9c527b2e06a82cc185a510a3ec25d"), looks := false }, kinds := [], alts := [], laidByText := true, laidKinds := [.data], laidTests := true, laidLooks := .later }
def BackTwiceUptoCardSaid : Prop := Claim7.holds Tryz.pinned (.plain (OpenSpec.upto backTwiceSpec)) backTwiceUptoCard
end Rows
end Go.Proofs.YtaiigfhicaelkabGreatDoor
