/-
  DERIVED. GIVEN WITH THE SEED: THE CARDS: each row of YtaiigfhicaelkaaGreatDoorRows.lean that lists a variable, with what it lists TIED to the program's text (the seventh form; the later family's looks); each row that meets fmt, with fmt's text TOLD by the authors' own Lean function (tested against real Go, not proved from fmt's source: count such statements apart). THE CARD IS WHAT COUNTS. Prove the row's statement (the work); the ties are given (YtaiigfhicaelkaaGreatDoorTie.lean); close each card by the builder's one call (the guide's Derived/Test/ToyasCard.lean, 'card_holds'). Laid BY PROGRAM, IN A SANDBOX (cutbox-door.mjs). By AI agents, Wed Nov 11 2026. No macro, syntax, notation, axiom, sorry.
-/
import Derived.Test.YtaiigfhicaelkaaGreatDoorRows
import GoSem.ClaimSeven
namespace Go.Proofs.YtaiigfhicaelkaaGreatDoor
namespace Rows

/-- THE TIED CARD OF 'carousellaw11.BackKnown'. -/
def backKnownCard : Claim7 := { stood := { row := backKnownRow, standIns := [], harness := (true, "d4c37b7def9de86c303bd3d896128556e3056c1c00947439a49305228baa4cb0"), looks := false }, kinds := [], alts := [], laidByText := true, laidKinds := [.data], laidTests := true, laidLooks := .later }
def BackKnownCardSaid : Prop := Claim7.holds Tryz.pinned (.plain (OpenSpec.ofChange backKnownSpec)) backKnownCard

/-- THE TIED CARD OF 'carousellaw11.BackSweeps'. -/
def backSweepsCard : Claim7 := { stood := { row := backSweepsRow, standIns := [], harness := (true, "d4c37b7def9de86c303bd3d896128556e3056c1c00947439a49305228baa4cb0"), looks := false }, kinds := [], alts := [], laidByText := true, laidKinds := [.data], laidTests := true, laidLooks := .later }
def BackSweepsCardSaid : Prop := Claim7.holds Tryz.pinned (.plain (OpenSpec.ofChange backSweepsSpec)) backSweepsCard

/-- THE TIED CARD OF 'carousellaw11.BackOnes'. -/
def backOnesCard : Claim7 := { stood := { row := backOnesRow, standIns := [], harness := (true, "d4c37b7def9de86c303bd3d896128556e3056c1c00947439a49305228baa4cb0"), looks := false }, kinds := [], alts := [], laidByText := true, laidKinds := [.data], laidTests := true, laidLooks := .later }
def BackOnesCardSaid : Prop := Claim7.holds Tryz.pinned (.plain (OpenSpec.ofChange backOnesSpec)) backOnesCard

/-- THE TIED CARD OF 'carousellaw11.BackLines'. -/
def backLinesCard : Claim7 := { stood := { row := backLinesRow, standIns := [], harness := (true, "d4c37b7def9de86c303bd3d896128556e3056c1c00947439a49305228baa4cb0"), looks := false }, kinds := [], alts := [], laidByText := true, laidKinds := [.data], laidTests := true, laidLooks := .later }
def BackLinesCardSaid : Prop := Claim7.holds Tryz.pinned (.plain (OpenSpec.ofChange backLinesSpec)) backLinesCard

/-- THE TIED CARD OF 'carousellaw11.BackAdds'. -/
def backAddsCard : Claim7 := { stood := { row := backAddsRow, standIns := [], harness := (true, "d4c37b7def9de86c303bd3d896128556e3056c1c00947439a49305228baa4cb0"), looks := false }, kinds := [], alts := [], laidByText := true, laidKinds := [.data], laidTests := true, laidLooks := .later }
def BackAddsCardSaid : Prop := Claim7.holds Tryz.pinned (.plain (OpenSpec.ofChange backAddsSpec)) backAddsCard

/-- THE TIED CARD OF 'carousellaw11.BackSteep'. -/
def backSteepCard : Claim7 := { stood := { row := backSteepRow, standIns := [], harness := (true, "d4c37b7def9de86c303bd3d896128556e3056c1c00947439a49305228baa4cb0"), looks := false }, kinds := [], alts := [], laidByText := true, laidKinds := [.data], laidTests := true, laidLooks := .later }
def BackSteepCardSaid : Prop := Claim7.holds Tryz.pinned (.plain (OpenSpec.ofChange backSteepSpec)) backSteepCard

/-- THE SECOND FORM's CARD OF 'carousellaw11.BackKnown'. -/
def backKnownUptoCard : Claim7 := { stood := { row := backKnownUptoRow, standIns := [], harness := (true, "d4c37b7def9de86c303bd3d896128556e3056c1c00947439a49305228baa4cb0"), looks := false }, kinds := [], alts := [], laidByText := true, laidKinds := [.data], laidTests := true, laidLooks := .later }
def BackKnownUptoCardSaid : Prop := Claim7.holds Tryz.pinned (.plain (OpenSpec.upto backKnownSpec)) backKnownUptoCard

/-- THE SECOND FORM's CARD OF 'carousellaw11.BackSweeps'. -/
def backSweepsUptoCard : Claim7 := { stood := { row := backSweepsUptoRow, standIns := [], harness := (true, "d4c37b7def9de86c303bd3d896128556e3056c1c00947439a49305228baa4cb0"), looks := false }, kinds := [], alts := [], laidByText := true, laidKinds := [.data], laidTests := true, laidLooks := .later }
def BackSweepsUptoCardSaid : Prop := Claim7.holds Tryz.pinned (.plain (OpenSpec.upto backSweepsSpec)) backSweepsUptoCard

/-- THE SECOND FORM's CARD OF 'carousellaw11.BackOnes'. -/
def backOnesUptoCard : Claim7 := { stood := { row := backOnesUptoRow, standIns := [], harness := (true, "d4c37b7def9de86c303bd3d896128556e3056c1c00947439a49305228baa4cb0"), looks := false }, kinds := [], alts := [], laidByText := true, laidKinds := [.data], laidTests := true, laidLooks := .later }
def BackOnesUptoCardSaid : Prop := Claim7.holds Tryz.pinned (.plain (OpenSpec.upto backOnesSpec)) backOnesUptoCard

/-- THE SECOND FORM's CARD OF 'carousellaw11.BackLines'. -/
def backLinesUptoCard : Claim7 := { stood := { row := backLinesUptoRow, standIns := [], harness := (true, "d4c37b7def9de86c303bd3d896128556e3056c1c00947439a49305228baa4cb0"), looks := false }, kinds := [], alts := [], laidByText := true, laidKinds := [.data], laidTests := true, laidLooks := .later }
def BackLinesUptoCardSaid : Prop := Claim7.holds Tryz.pinned (.plain (OpenSpec.upto backLinesSpec)) backLinesUptoCard

/-- THE SECOND FORM's CARD OF 'carousellaw11.BackAdds'. -/
def backAddsUptoCard : Claim7 := { stood := { row := backAddsUptoRow, standIns := [], harness := (true, "d4c37b7def9de86c303bd3d896128556e3056c1c00947439a49305228baa4cb0"), looks := false }, kinds := [], alts := [], laidByText := true, laidKinds := [.data], laidTests := true, laidLooks := .later }
def BackAddsUptoCardSaid : Prop := Claim7.holds Tryz.pinned (.plain (OpenSpec.upto backAddsSpec)) backAddsUptoCard

/-- THE SECOND FORM's CARD OF 'carousellaw11.BackSteep'. -/
def backSteepUptoCard : Claim7 := { stood := { row := backSteepUptoRow, standIns := [], harness := (true, "d4c37b7def9de86c303bd3d896128556e3056c1c00947439a49305228baa4cb0"), looks := false }, kinds := [], alts := [], laidByText := true, laidKinds := [.data], laidTests := true, laidLooks := .later }
def BackSteepUptoCardSaid : Prop := Claim7.holds Tryz.pinned (.plain (OpenSpec.upto backSteepSpec)) backSteepUptoCard
end Rows
end Go.Proofs.YtaiigfhicaelkaaGreatDoor
