/-
  DERIVED. GIVEN WITH THE SEED: THE CARDS: each row of YthcfeiddbffcfabDoorRows.lean that lists a variable, with what it lists TIED to the program's text (the seventh form; the later family's looks); each row that meets fmt, with fmt's text TOLD by the authors' own Lean function (tested against real Go, not proved from fmt's source: count such statements apart). THE CARD IS WHAT COUNTS. Prove the row's statement (the work); the ties are given (YthcfeiddbffcfabDoorTie.lean); close each card by the builder's one call (the guide's Derived/Test/ToyasCard.lean, 'card_holds'). Laid BY PROGRAM, IN A SANDBOX (cutbox-door.mjs). By AI agents, Wed Nov 11 2026. No macro, syntax, notation, axiom, sorry.
-/
import Derived.Test.YthcfeiddbffcfabDoorRows
import GoSem.ClaimSeven
namespace Go.Proofs.YthcfeiddbffcfabDoor
namespace Rows

/-- THE TIED CARD OF 'carousellaw7.MatmAlike'. -/
def matmAlikeCard : Claim7 := { stood := { row := matmAlikeRow, standIns := [], harness := (true, "17acc4a24d1f6dffe01ebac0df1ff57f2a1b8bc69d4c6d428e1f34a5e7240597"), looks := false }, kinds := [], alts := [], laidByText := true, laidKinds := [.data], laidTests := true, laidLooks := .later }
def MatmAlikeCardSaid : Prop := Claim7.holds Tryd.pinned (.plain (OpenSpec.ofChange matmAlikeSpec)) matmAlikeCard

/-- THE TIED CARD OF 'carousellaw7.MatmRows'. -/
def matmRowsCard : Claim7 := { stood := { row := matmRowsRow, standIns := [], harness := (true, "17acc4a24d1f6dffe01ebac0df1ff57f2a1b8bc69d4c6d428e1f34a5e7240597"), looks := false }, kinds := [], alts := [], laidByText := true, laidKinds := [.data], laidTests := true, laidLooks := .later }
def MatmRowsCardSaid : Prop := Claim7.holds Tryd.pinned (.plain (OpenSpec.ofChange matmRowsSpec)) matmRowsCard

/-- THE SECOND FORM's CARD OF 'carousellaw7.MatmAlike'. -/
def matmAlikeUptoCard : Claim7 := { stood := { row := matmAlikeUptoRow, standIns := [], harness := (true, "17acc4a24d1f6dffe01ebac0df1ff57f2a1b8bc69d4c6d428e1f34a5e7240597"), looks := false }, kinds := [], alts := [], laidByText := true, laidKinds := [.data], laidTests := true, laidLooks := .later }
def MatmAlikeUptoCardSaid : Prop := Claim7.holds Tryd.pinned (.plain (OpenSpec.upto matmAlikeSpec)) matmAlikeUptoCard

/-- THE SECOND FORM's CARD OF 'carousellaw7.MatmRows'. -/
def matmRowsUptoCard : Claim7 := { stood := { row := matmRowsUptoRow, standIns := [], harness := (true, "17acc4a24d1f6dffe01ebac0df1ff57f2a1b8bc69d4c6d428e1f34a5e7240597"), looks := false }, kinds := [], alts := [], laidByText := true, laidKinds := [.data], laidTests := true, laidLooks := .later }
def MatmRowsUptoCardSaid : Prop := Claim7.holds Tryd.pinned (.plain (OpenSpec.upto matmRowsSpec)) matmRowsUptoCard
end Rows
end Go.Proofs.YthcfeiddbffcfabDoor
