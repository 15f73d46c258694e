/-
  DERIVED. GIVEN WITH THE SEED: THE CARDS: each row of YtnicknnhboanoaaDoorRows.lean that lists a variable, with what it lists TIED to the program's text (the seventh form; the later family's looks); each row that meets fmt, with fmt's text TOLD by the authors' own Lean function (tested against real Go, not proved from fmt's source: count such statements apart). THE CARD IS WHAT COUNTS. Prove the row's statement (the work); the ties are given (YtnicknnhboanoaaDoorTie.lean); close each card by the builder's one call (the guide's Derived/Test/ToyasCard.lean, 'card_holds'). Laid BY PROGRAM, IN A SANDBOX (cutbox-door.mjs). By AI agents, Wed Nov 11 2026. No macro, syntax, notation, axiom, sorry.
-/
import Derived.Test.YtnicknnhboanoaaDoorRows
import GoSem.ClaimSeven
namespace Go.Proofs.YtnicknnhboanoaaDoor
namespace Rows

/-- THE TIED CARD OF 'carousellaw8.ConvKnown'. -/
def convKnownCard : Claim7 := { stood := { row := convKnownRow, standIns := [], harness := (true, "0486325dfb6e98c06ded6fb428d921fea9f4d66864c75761d802f0098a3ff661"), looks := false }, kinds := [], alts := [], laidByText := true, laidKinds := [.data], laidTests := true, laidLooks := .later }
def ConvKnownCardSaid : Prop := Claim7.holds Tryd.pinned (.plain (OpenSpec.ofChange convKnownSpec)) convKnownCard

/-- THE TIED CARD OF 'carousellaw8.ConvRows'. -/
def convRowsCard : Claim7 := { stood := { row := convRowsRow, standIns := [], harness := (true, "0486325dfb6e98c06ded6fb428d921fea9f4d66864c75761d802f0098a3ff661"), looks := false }, kinds := [], alts := [], laidByText := true, laidKinds := [.data], laidTests := true, laidLooks := .later }
def ConvRowsCardSaid : Prop := Claim7.holds Tryd.pinned (.plain (OpenSpec.ofChange convRowsSpec)) convRowsCard

/-- THE TIED CARD OF 'carousellaw8.ConvBacks'. -/
def convBacksCard : Claim7 := { stood := { row := convBacksRow, standIns := [], harness := (true, "0486325dfb6e98c06ded6fb428d921fea9f4d66864c75761d802f0098a3ff661"), looks := false }, kinds := [], alts := [], laidByText := true, laidKinds := [.data], laidTests := true, laidLooks := .later }
def ConvBacksCardSaid : Prop := Claim7.holds Tryd.pinned (.plain (OpenSpec.ofChange convBacksSpec)) convBacksCard

/-- THE TIED CARD OF 'carousellaw8.ConvPools'. -/
def convPoolsCard : Claim7 := { stood := { row := convPoolsRow, standIns := [], harness := (true, "0486325dfb6e98c06ded6fb428d921fea9f4d66864c75761d802f0098a3ff661"), looks := false }, kinds := [], alts := [], laidByText := true, laidKinds := [.data], laidTests := true, laidLooks := .later }
def ConvPoolsCardSaid : Prop := Claim7.holds Tryd.pinned (.plain (OpenSpec.ofChange convPoolsSpec)) convPoolsCard

/-- THE TIED CARD OF 'carousellaw8.ConvOne'. -/
def convOneCard : Claim7 := { stood := { row := convOneRow, standIns := [], harness := (true, "0486325dfb6e98c06ded6fb428d921fea9f4d66864c75761d802f0098a3ff661"), looks := false }, kinds := [], alts := [], laidByText := true, laidKinds := [.data], laidTests := true, laidLooks := .later }
def ConvOneCardSaid : Prop := Claim7.holds Tryd.pinned (.plain (OpenSpec.ofChange convOneSpec)) convOneCard

/-- THE TIED CARD OF 'carousellaw8.ConvShifts'. -/
def convShiftsCard : Claim7 := { stood := { row := convShiftsRow, standIns := [], harness := (true, "0486325dfb6e98c06ded6fb428d921fea9f4d66864c75761d802f0098a3ff661"), looks := false }, kinds := [], alts := [], laidByText := true, laidKinds := [.data], laidTests := true, laidLooks := .later }
def ConvShiftsCardSaid : Prop := Claim7.holds Tryd.pinned (.plain (OpenSpec.ofChange convShiftsSpec)) convShiftsCard

/-- THE SECOND FORM's CARD OF 'carousellaw8.ConvKnown'. -/
def convKnownUptoCard : Claim7 := { stood := { row := convKnownUptoRow, standIns := [], harness := (true, "0486325dfb6e98c06ded6fb428d921fea9f4d66864c75761d802f0098a3ff661"), looks := false }, kinds := [], alts := [], laidByText := true, laidKinds := [.data], laidTests := true, laidLooks := .later }
def ConvKnownUptoCardSaid : Prop := Claim7.holds Tryd.pinned (.plain (OpenSpec.upto convKnownSpec)) convKnownUptoCard

/-- THE SECOND FORM's CARD OF 'carousellaw8.ConvRows'. -/
def convRowsUptoCard : Claim7 := { stood := { row := convRowsUptoRow, standIns := [], harness := (true, "0486325dfb6e98c06ded6fb428d921fea9f4d66864c75761d802f0098a3ff661"), looks := false }, kinds := [], alts := [], laidByText := true, laidKinds := [.data], laidTests := true, laidLooks := .later }
def ConvRowsUptoCardSaid : Prop := Claim7.holds Tryd.pinned (.plain (OpenSpec.upto convRowsSpec)) convRowsUptoCard

/-- THE SECOND FORM's CARD OF 'carousellaw8.ConvBacks'. -/
def convBacksUptoCard : Claim7 := { stood := { row := convBacksUptoRow, standIns := [], harness := (true, "0486325dfb6e98c06ded6fb428d921fea9f4d66864c75761d802f0098a3ff661"), looks := false }, kinds := [], alts := [], laidByText := true, laidKinds := [.data], laidTests := true, laidLooks := .later }
def ConvBacksUptoCardSaid : Prop := Claim7.holds Tryd.pinned (.plain (OpenSpec.upto convBacksSpec)) convBacksUptoCard

/-- THE SECOND FORM's CARD OF 'carousellaw8.ConvPools'. -/
def convPoolsUptoCard : Claim7 := { stood := { row := convPoolsUptoRow, standIns := [], harness := (true, "0486325dfb6e98c06ded6fb428d921fea9f4d66864c75761d802f0098a3ff661"), looks := false }, kinds := [], alts := [], laidByText := true, laidKinds := [.data], laidTests := true, laidLooks := .later }
def ConvPoolsUptoCardSaid : Prop := Claim7.holds Tryd.pinned (.plain (OpenSpec.upto convPoolsSpec)) convPoolsUptoCard

/-- THE SECOND FORM's CARD OF 'carousellaw8.ConvOne'. -/
def convOneUptoCard : Claim7 := { stood := { row := convOneUptoRow, standIns := [], harness := (true, "0486325dfb6e98c06ded6fb428d921fea9f4d66864c75761d802f0098a3ff661"), looks := false }, kinds := [], alts := [], laidByText := true, laidKinds := [.data], laidTests := true, laidLooks := .later }
def ConvOneUptoCardSaid : Prop := Claim7.holds Tryd.pinned (.plain (OpenSpec.upto convOneSpec)) convOneUptoCard

/-- THE SECOND FORM's CARD OF 'carousellaw8.ConvShifts'. -/
def convShiftsUptoCard : Claim7 := { stood := { row := convShiftsUptoRow, standIns := [], harness := (true, "0486325dfb6e98c06ded6fb428d921fea9f4d66864c75761d802f0098a3ff661"), looks := false }, kinds := [], alts := [], laidByText := true, laidKinds := [.data], laidTests := true, laidLooks := .later }
def ConvShiftsUptoCardSaid : Prop := Claim7.holds Tryd.pinned (.plain (OpenSpec.upto convShiftsSpec)) convShiftsUptoCard
end Rows
end Go.Proofs.YtnicknnhboanoaaDoor
