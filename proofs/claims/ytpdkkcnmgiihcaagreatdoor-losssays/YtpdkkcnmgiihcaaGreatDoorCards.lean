/-
  DERIVED. GIVEN WITH THE SEED: THE CARDS: each row of YtpdkkcnmgiihcaaGreatDoorRows.lean that lists a variable, with what it lists TIED to the program's text (the seventh form; the later family's looks); each row that meets fmt, with fmt's text TOLD by the authors' own Lean function (tested against real Go, not proved from fmt's source: count such statements apart). THE CARD IS WHAT COUNTS. Prove the row's statement (the work); the ties are given (YtpdkkcnmgiihcaaGreatDoorTie.lean); close each card by the builder's one call (the guide's Derived/Test/ToyasCard.lean, 'card_holds'). Laid BY PROGRAM, IN A SANDBOX (cutbox-door.mjs). By AI agents, Wed Nov 11 2026. No macro, syntax, notation, axiom, sorry.
-/
import Derived.Test.YtpdkkcnmgiihcaaGreatDoorRows
import GoSem.ClaimSeven
namespace Go.Proofs.YtpdkkcnmgiihcaaGreatDoor
namespace Rows

/-- THE TIED CARD OF 'carousellaw13.LossKnown'. -/
def lossKnownCard : Claim7 := { stood := { row := lossKnownRow, standIns := [], harness := (true, "b546a2df665e6bb0884bd0e7cb17ac0101c1621645d52bbd65e85f28abd38bd0"), looks := false }, kinds := [], alts := [], laidByText := true, laidKinds := [.data], laidTests := true, laidLooks := .later }
def LossKnownCardSaid : Prop := Claim7.holds Tryz.pinned (.plain (OpenSpec.ofChange lossKnownSpec)) lossKnownCard

/-- THE TIED CARD OF 'carousellaw13.LossSays'. -/
def lossSaysCard : Claim7 := { stood := { row := lossSaysRow, standIns := [], harness := (true, "b546a2df665e6bb0884bd0e7cb17ac0101c1621645d52bbd65e85f28abd38bd0"), looks := false }, kinds := [], alts := [], laidByText := true, laidKinds := [.data], laidTests := true, laidLooks := .later }
def LossSaysCardSaid : Prop := Claim7.holds Tryz.pinned (.plain (OpenSpec.ofChange lossSaysSpec)) lossSaysCard

/-- THE TIED CARD OF 'carousellaw13.LossNone'. -/
def lossNoneCard : Claim7 := { stood := { row := lossNoneRow, standIns := [], harness := (true, "b546a2df665e6bb0884bd0e7cb17ac0101c1621645d52bbd65e85f28abd38bd0"), looks := false }, kinds := [], alts := [], laidByText := true, laidKinds := [.data], laidTests := true, laidLooks := .later }
def LossNoneCardSaid : Prop := Claim7.holds Tryz.pinned (.plain (OpenSpec.ofChange lossNoneSpec)) lossNoneCard

/-- THE TIED CARD OF 'carousellaw13.LossHinges'. -/
def lossHingesCard : Claim7 := { stood := { row := lossHingesRow, standIns := [], harness := (true, "b546a2df665e6bb0884bd0e7cb17ac0101c1621645d52bbd65e85f28abd38bd0"), looks := false }, kinds := [], alts := [], laidByText := true, laidKinds := [.data], laidTests := true, laidLooks := .later }
def LossHingesCardSaid : Prop := Claim7.holds Tryz.pinned (.plain (OpenSpec.ofChange lossHingesSpec)) lossHingesCard

/-- THE TIED CARD OF 'carousellaw13.LossTurns'. -/
def lossTurnsCard : Claim7 := { stood := { row := lossTurnsRow, standIns := [], harness := (true, "b546a2df665e6bb0884bd0e7cb17ac0101c1621645d52bbd65e85f28abd38bd0"), looks := false }, kinds := [], alts := [], laidByText := true, laidKinds := [.data], laidTests := true, laidLooks := .later }
def LossTurnsCardSaid : Prop := Claim7.holds Tryz.pinned (.plain (OpenSpec.ofChange lossTurnsSpec)) lossTurnsCard

/-- THE SECOND FORM's CARD OF 'carousellaw13.LossKnown'. -/
def lossKnownUptoCard : Claim7 := { stood := { row := lossKnownUptoRow, standIns := [], harness := (true, "b546a2df665e6bb0884bd0e7cb17ac0101c1621645d52bbd65e85f28abd38bd0"), looks := false }, kinds := [], alts := [], laidByText := true, laidKinds := [.data], laidTests := true, laidLooks := .later }
def LossKnownUptoCardSaid : Prop := Claim7.holds Tryz.pinned (.plain (OpenSpec.upto lossKnownSpec)) lossKnownUptoCard

/-- THE SECOND FORM's CARD OF 'carousellaw13.LossSays'. -/
def lossSaysUptoCard : Claim7 := { stood := { row := lossSaysUptoRow, standIns := [], harness := (true, "b546a2df665e6bb0884bd0e7cb17ac0101c1621645d52bbd65e85f28abd38bd0"), looks := false }, kinds := [], alts := [], laidByText := true, laidKinds := [.data], laidTests := true, laidLooks := .later }
def LossSaysUptoCardSaid : Prop := Claim7.holds Tryz.pinned (.plain (OpenSpec.upto lossSaysSpec)) lossSaysUptoCard

/-- THE SECOND FORM's CARD OF 'carousellaw13.LossNone'. -/
def lossNoneUptoCard : Claim7 := { stood := { row := lossNoneUptoRow, standIns := [], harness := (true, "b546a2df665e6bb0884bd0e7cb17ac0101c1621645d52bbd65e85f28abd38bd0"), looks := false }, kinds := [], alts := [], laidByText := true, laidKinds := [.data], laidTests := true, laidLooks := .later }
def LossNoneUptoCardSaid : Prop := Claim7.holds Tryz.pinned (.plain (OpenSpec.upto lossNoneSpec)) lossNoneUptoCard

/-- THE SECOND FORM's CARD OF 'carousellaw13.LossHinges'. -/
def lossHingesUptoCard : Claim7 := { stood := { row := lossHingesUptoRow, standIns := [], harness := (true, "b546a2df665e6bb0884bd0e7cb17ac0101c1621645d52bbd65e85f28abd38bd0"), looks := false }, kinds := [], alts := [], laidByText := true, laidKinds := [.data], laidTests := true, laidLooks := .later }
def LossHingesUptoCardSaid : Prop := Claim7.holds Tryz.pinned (.plain (OpenSpec.upto lossHingesSpec)) lossHingesUptoCard

/-- THE SECOND FORM's CARD OF 'carousellaw13.LossTurns'. -/
def lossTurnsUptoCard : Claim7 := { stood := { row := lossTurnsUptoRow, standIns := [], harness := (true, "b546a2df665e6bb0884bd0e7cb17ac0101c1621645d52bbd65e85f28abd38bd0"), looks := false }, kinds := [], alts := [], laidByText := true, laidKinds := [.data], laidTests := true, laidLooks := .later }
def LossTurnsUptoCardSaid : Prop := Claim7.holds Tryz.pinned (.plain (OpenSpec.upto lossTurnsSpec)) lossTurnsUptoCard
end Rows
end Go.Proofs.YtpdkkcnmgiihcaaGreatDoor
