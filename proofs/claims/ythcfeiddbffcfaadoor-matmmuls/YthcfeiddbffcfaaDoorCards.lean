/-
  DERIVED. GIVEN WITH THE SEED: THE CARDS: each row of YthcfeiddbffcfaaDoorRows.lean that lists a variable, with what it lists TIED to the program's text (the seventh form; the later family's looks); each row that meets fmt, with fmt's text TOLD by the authors' own Lean function (tested against real Go, not proved from fmt's source: count such statements apart). THE CARD IS WHAT COUNTS. Prove the row's statement (the work); the ties are given (YthcfeiddbffcfaaDoorTie.lean); close each card by the builder's one call (the guide's Derived/Test/ToyasCard.lean, 'card_holds'). Laid BY PROGRAM, IN A SANDBOX (cutbox-door.mjs). By AI agents, Wed Nov 11 2026. No macro, syntax, notation, axiom, sorry.
-/
import Derived.Test.YthcfeiddbffcfaaDoorRows
import GoSem.ClaimSeven
namespace Go.Proofs.YthcfeiddbffcfaaDoor
namespace Rows

/-- THE TIED CARD OF 'carousellaw7.MatmKnown'. -/
def matmKnownCard : Claim7 := { stood := { row := matmKnownRow, standIns := [], harness := (true, "f5727646347ecc31474f138f492de5afe8f30e67fbb576af4b379026cee3dc1f"), looks := false }, kinds := [], alts := [], laidByText := true, laidKinds := [.data], laidTests := true, laidLooks := .later }
def MatmKnownCardSaid : Prop := Claim7.holds Tryd.pinned (.plain (OpenSpec.ofChange matmKnownSpec)) matmKnownCard

/-- THE TIED CARD OF 'carousellaw7.MatmMuls'. -/
def matmMulsCard : Claim7 := { stood := { row := matmMulsRow, standIns := [], harness := (true, "f5727646347ecc31474f138f492de5afe8f30e67fbb576af4b379026cee3dc1f"), looks := false }, kinds := [], alts := [], laidByText := true, laidKinds := [.data], laidTests := true, laidLooks := .later }
def MatmMulsCardSaid : Prop := Claim7.holds Tryd.pinned (.plain (OpenSpec.ofChange matmMulsSpec)) matmMulsCard

/-- THE TIED CARD OF 'carousellaw7.MatmSums'. -/
def matmSumsCard : Claim7 := { stood := { row := matmSumsRow, standIns := [], harness := (true, "f5727646347ecc31474f138f492de5afe8f30e67fbb576af4b379026cee3dc1f"), looks := false }, kinds := [], alts := [], laidByText := true, laidKinds := [.data], laidTests := true, laidLooks := .later }
def MatmSumsCardSaid : Prop := Claim7.holds Tryd.pinned (.plain (OpenSpec.ofChange matmSumsSpec)) matmSumsCard

/-- THE TIED CARD OF 'carousellaw7.MatmDots'. -/
def matmDotsCard : Claim7 := { stood := { row := matmDotsRow, standIns := [], harness := (true, "f5727646347ecc31474f138f492de5afe8f30e67fbb576af4b379026cee3dc1f"), looks := false }, kinds := [], alts := [], laidByText := true, laidKinds := [.data], laidTests := true, laidLooks := .later }
def MatmDotsCardSaid : Prop := Claim7.holds Tryd.pinned (.plain (OpenSpec.ofChange matmDotsSpec)) matmDotsCard

/-- THE TIED CARD OF 'carousellaw7.MatmFlips'. -/
def matmFlipsCard : Claim7 := { stood := { row := matmFlipsRow, standIns := [], harness := (true, "f5727646347ecc31474f138f492de5afe8f30e67fbb576af4b379026cee3dc1f"), looks := false }, kinds := [], alts := [], laidByText := true, laidKinds := [.data], laidTests := true, laidLooks := .later }
def MatmFlipsCardSaid : Prop := Claim7.holds Tryd.pinned (.plain (OpenSpec.ofChange matmFlipsSpec)) matmFlipsCard

/-- THE TIED CARD OF 'carousellaw7.MatmOnes'. -/
def matmOnesCard : Claim7 := { stood := { row := matmOnesRow, standIns := [], harness := (true, "f5727646347ecc31474f138f492de5afe8f30e67fbb576af4b379026cee3dc1f"), looks := false }, kinds := [], alts := [], laidByText := true, laidKinds := [.data], laidTests := true, laidLooks := .later }
def MatmOnesCardSaid : Prop := Claim7.holds Tryd.pinned (.plain (OpenSpec.ofChange matmOnesSpec)) matmOnesCard

/-- THE SECOND FORM's CARD OF 'carousellaw7.MatmKnown'. -/
def matmKnownUptoCard : Claim7 := { stood := { row := matmKnownUptoRow, standIns := [], harness := (true, "f5727646347ecc31474f138f492de5afe8f30e67fbb576af4b379026cee3dc1f"), looks := false }, kinds := [], alts := [], laidByText := true, laidKinds := [.data], laidTests := true, laidLooks := .later }
def MatmKnownUptoCardSaid : Prop := Claim7.holds Tryd.pinned (.plain (OpenSpec.upto matmKnownSpec)) matmKnownUptoCard

/-- THE SECOND FORM's CARD OF 'carousellaw7.MatmMuls'. -/
def matmMulsUptoCard : Claim7 := { stood := { row := matmMulsUptoRow, standIns := [], harness := (true, "f5727646347ecc31474f138f492de5afe8f30e67fbb576af4b379026cee3dc1f"), looks := false }, kinds := [], alts := [], laidByText := true, laidKinds := [.data], laidTests := true, laidLooks := .later }
def MatmMulsUptoCardSaid : Prop := Claim7.holds Tryd.pinned (.plain (OpenSpec.upto matmMulsSpec)) matmMulsUptoCard

/-- THE SECOND FORM's CARD OF 'carousellaw7.MatmSums'. -/
def matmSumsUptoCard : Claim7 := { stood := { row := matmSumsUptoRow, standIns := [], harness := (true, "f5727646347ecc31474f138f492de5afe8f30e67fbb576af4b379026cee3dc1f"), looks := false }, kinds := [], alts := [], laidByText := true, laidKinds := [.data], laidTests := true, laidLooks := .later }
def MatmSumsUptoCardSaid : Prop := Claim7.holds Tryd.pinned (.plain (OpenSpec.upto matmSumsSpec)) matmSumsUptoCard

/-- THE SECOND FORM's CARD OF 'carousellaw7.MatmDots'. -/
def matmDotsUptoCard : Claim7 := { stood := { row := matmDotsUptoRow, standIns := [], harness := (true, "f5727646347ecc31474f138f492de5afe8f30e67fbb576af4b379026cee3dc1f"), looks := false }, kinds := [], alts := [], laidByText := true, laidKinds := [.data], laidTests := true, laidLooks := .later }
def MatmDotsUptoCardSaid : Prop := Claim7.holds Tryd.pinned (.plain (OpenSpec.upto matmDotsSpec)) matmDotsUptoCard

/-- THE SECOND FORM's CARD OF 'carousellaw7.MatmFlips'. -/
def matmFlipsUptoCard : Claim7 := { stood := { row := matmFlipsUptoRow, standIns := [], harness := (true, "f5727646347ecc31474f138f492de5afe8f30e67fbb576af4b379026cee3dc1f"), looks := false }, kinds := [], alts := [], laidByText := true, laidKinds := [.data], laidTests := true, laidLooks := .later }
def MatmFlipsUptoCardSaid : Prop := Claim7.holds Tryd.pinned (.plain (OpenSpec.upto matmFlipsSpec)) matmFlipsUptoCard

/-- THE SECOND FORM's CARD OF 'carousellaw7.MatmOnes'. -/
def matmOnesUptoCard : Claim7 := { stood := { row := matmOnesUptoRow, standIns := [], harness := (true, "f5727646347ecc31474f138f492de5afe8f30e67fbb576af4b379026cee3dc1f"), looks := false }, kinds := [], alts := [], laidByText := true, laidKinds := [.data], laidTests := true, laidLooks := .later }
def MatmOnesUptoCardSaid : Prop := Claim7.holds Tryd.pinned (.plain (OpenSpec.upto matmOnesSpec)) matmOnesUptoCard
end Rows
end Go.Proofs.YthcfeiddbffcfaaDoor
