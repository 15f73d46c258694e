/-
  DERIVED. GIVEN WITH THE SEED: THE CARDS: each row of YtdbndpcbejofkaaDoorRows.lean that lists a variable, with what it lists TIED to the program's text (the seventh form; the later family's looks); each row that meets fmt, with fmt's text TOLD by the authors' own Lean function (tested against real Go, not proved from fmt's source: count such statements apart). THE CARD IS WHAT COUNTS. Prove the row's statement (the work); the ties are given (YtdbndpcbejofkaaDoorTie.lean); close each card by the builder's one call (the guide's Derived/Test/ToyasCard.lean, 'card_holds'). Laid BY PROGRAM, IN A SANDBOX (cutbox-door.mjs). By AI agents, Wed Nov 11 2026. No macro, syntax, notation, axiom, sorry.
-/
import Derived.Test.YtdbndpcbejofkaaDoorRows
import GoSem.ClaimSeven
namespace Go.Proofs.YtdbndpcbejofkaaDoor
namespace Rows

/-- THE TIED CARD OF 'carousellaw2.WideKnown'. -/
def wideKnownCard : Claim7 := { stood := { row := wideKnownRow, standIns := [], harness := (true, "f09a2a4501c981bd8e648dcbe3d6e6a88f430337d19b1ea379a719deef5be3ef"), looks := false }, kinds := [], alts := [], laidByText := true, laidKinds := [.data], laidTests := true, laidLooks := .later }
def WideKnownCardSaid : Prop := Claim7.holds Tryd.pinned (.plain (OpenSpec.ofChange wideKnownSpec)) wideKnownCard

/-- THE TIED CARD OF 'carousellaw2.WideReckons'. -/
def wideReckonsCard : Claim7 := { stood := { row := wideReckonsRow, standIns := [], harness := (true, "f09a2a4501c981bd8e648dcbe3d6e6a88f430337d19b1ea379a719deef5be3ef"), looks := false }, kinds := [], alts := [], laidByText := true, laidKinds := [.data], laidTests := true, laidLooks := .later }
def WideReckonsCardSaid : Prop := Claim7.holds Tryd.pinned (.plain (OpenSpec.ofChange wideReckonsSpec)) wideReckonsCard

/-- THE TIED CARD OF 'carousellaw2.WideProds'. -/
def wideProdsCard : Claim7 := { stood := { row := wideProdsRow, standIns := [], harness := (true, "f09a2a4501c981bd8e648dcbe3d6e6a88f430337d19b1ea379a719deef5be3ef"), looks := false }, kinds := [], alts := [], laidByText := true, laidKinds := [.data], laidTests := true, laidLooks := .later }
def WideProdsCardSaid : Prop := Claim7.holds Tryd.pinned (.plain (OpenSpec.ofChange wideProdsSpec)) wideProdsCard

/-- THE TIED CARD OF 'carousellaw2.WideOrder'. -/
def wideOrderCard : Claim7 := { stood := { row := wideOrderRow, standIns := [], harness := (true, "f09a2a4501c981bd8e648dcbe3d6e6a88f430337d19b1ea379a719deef5be3ef"), looks := false }, kinds := [], alts := [], laidByText := true, laidKinds := [.data], laidTests := true, laidLooks := .later }
def WideOrderCardSaid : Prop := Claim7.holds Tryd.pinned (.plain (OpenSpec.ofChange wideOrderSpec)) wideOrderCard

/-- THE TIED CARD OF 'carousellaw2.WideBack'. -/
def wideBackCard : Claim7 := { stood := { row := wideBackRow, standIns := [], harness := (true, "f09a2a4501c981bd8e648dcbe3d6e6a88f430337d19b1ea379a719deef5be3ef"), looks := false }, kinds := [], alts := [], laidByText := true, laidKinds := [.data], laidTests := true, laidLooks := .later }
def WideBackCardSaid : Prop := Claim7.holds Tryd.pinned (.plain (OpenSpec.ofChange wideBackSpec)) wideBackCard

/-- THE TIED CARD OF 'carousellaw2.WideSums'. -/
def wideSumsCard : Claim7 := { stood := { row := wideSumsRow, standIns := [], harness := (true, "f09a2a4501c981bd8e648dcbe3d6e6a88f430337d19b1ea379a719deef5be3ef"), looks := false }, kinds := [], alts := [], laidByText := true, laidKinds := [.data], laidTests := true, laidLooks := .later }
def WideSumsCardSaid : Prop := Claim7.holds Tryd.pinned (.plain (OpenSpec.ofChange wideSumsSpec)) wideSumsCard

/-- THE SECOND FORM's CARD OF 'carousellaw2.WideKnown'. -/
def wideKnownUptoCard : Claim7 := { stood := { row := wideKnownUptoRow, standIns := [], harness := (true, "f09a2a4501c981bd8e648dcbe3d6e6a88f430337d19b1ea379a719deef5be3ef"), looks := false }, kinds := [], alts := [], laidByText := true, laidKinds := [.data], laidTests := true, laidLooks := .later }
def WideKnownUptoCardSaid : Prop := Claim7.holds Tryd.pinned (.plain (OpenSpec.upto wideKnownSpec)) wideKnownUptoCard

/-- THE SECOND FORM's CARD OF 'carousellaw2.WideReckons'. -/
def wideReckonsUptoCard : Claim7 := { stood := { row := wideReckonsUptoRow, standIns := [], harness := (true, "f09a2a4501c981bd8e648dcbe3d6e6a88f430337d19b1ea379a719deef5be3ef"), looks := false }, kinds := [], alts := [], laidByText := true, laidKinds := [.data], laidTests := true, laidLooks := .later }
def WideReckonsUptoCardSaid : Prop := Claim7.holds Tryd.pinned (.plain (OpenSpec.upto wideReckonsSpec)) wideReckonsUptoCard

/-- THE SECOND FORM's CARD OF 'carousellaw2.WideProds'. -/
def wideProdsUptoCard : Claim7 := { stood := { row := wideProdsUptoRow, standIns := [], harness := (true, "f09a2a4501c981bd8e648dcbe3d6e6a88f430337d19b1ea379a719deef5be3ef"), looks := false }, kinds := [], alts := [], laidByText := true, laidKinds := [.data], laidTests := true, laidLooks := .later }
def WideProdsUptoCardSaid : Prop := Claim7.holds Tryd.pinned (.plain (OpenSpec.upto wideProdsSpec)) wideProdsUptoCard

/-- THE SECOND FORM's CARD OF 'carousellaw2.WideOrder'. -/
def wideOrderUptoCard : Claim7 := { stood := { row := wideOrderUptoRow, standIns := [], harness := (true, "f09a2a4501c981bd8e648dcbe3d6e6a88f430337d19b1ea379a719deef5be3ef"), looks := false }, kinds := [], alts := [], laidByText := true, laidKinds := [.data], laidTests := true, laidLooks := .later }
def WideOrderUptoCardSaid : Prop := Claim7.holds Tryd.pinned (.plain (OpenSpec.upto wideOrderSpec)) wideOrderUptoCard

/-- THE SECOND FORM's CARD OF 'carousellaw2.WideBack'. -/
def wideBackUptoCard : Claim7 := { stood := { row := wideBackUptoRow, standIns := [], harness := (true, "f09a2a4501c981bd8e648dcbe3d6e6a88f430337d19b1ea379a719deef5be3ef"), looks := false }, kinds := [], alts := [], laidByText := true, laidKinds := [.data], laidTests := true, laidLooks := .later }
def WideBackUptoCardSaid : Prop := Claim7.holds Tryd.pinned (.plain (OpenSpec.upto wideBackSpec)) wideBackUptoCard

/-- THE SECOND FORM's CARD OF 'carousellaw2.WideSums'. -/
def wideSumsUptoCard : Claim7 := { stood := { row := wideSumsUptoRow, standIns := [], harness := (true, "f09a2a4501c981bd8e648dcbe3d6e6a88f430337d19b1ea379a719deef5be3ef"), looks := false }, kinds := [], alts := [], laidByText := true, laidKinds := [.data], laidTests := true, laidLooks := .later }
def WideSumsUptoCardSaid : Prop := Claim7.holds Tryd.pinned (.plain (OpenSpec.upto wideSumsSpec)) wideSumsUptoCard
end Rows
end Go.Proofs.YtdbndpcbejofkaaDoor
