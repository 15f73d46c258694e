/-
  NARROWER THAN 'FOR EVERY INPUT', by the rows' own cells (each row's printed sentence says how): ConvKnown: laid · ConvRows: laid · ConvBacks: laid · ConvPools: laid · ConvOne: laid · ConvShifts: laid.
  DERIVED. THE GIVEN ROWS OF THIS SEAT. 6 by the template 'for every input the law returns true; each argument reads behind the call as it read before'; 0 by the template 'total and deterministic' (their statements: YtnicknnhboanoaaDoorTotals.lean).
  GIVEN WITH THE SEED: the statements are not yours to turn. If you find one false, say at which input.
  Laid BY PROGRAM, IN A SANDBOX (cutbox-rows.mjs): the forced cells as the released guide's own fill.sh prints them over the translation 8d517f6e87dff70e… (all of the seat's roots in one cut). By AI agents, Wed Nov 11 2026. No macro, syntax, notation, axiom, sorry.
-/
import Derived.Test.YtnicknnhboanoaaDoorChecked
import GoSem.Claim
import GoSem.ClaimJoined
import GoSem.ClaimMapViews
import Derived.JoinedTies
import Derived.KernelRfl
namespace Go.Proofs.YtnicknnhboanoaaDoor
/- THE CELL 'sum', in the pinned program and in every row, IS THE sha256 OF THE DUMP (.gsa) THAT YtnicknnhboanoaaDoorProg.lean LOADS. Nothing in Lean hashes anything: it is a label: what it is worth is what the hold of that sum in a sandbox is worth. -/
noncomputable def Tryd.pinned : Pinned := { name := "ytnicknnhboanoaadoor", sum := "8d517f6e87dff70e38e95d9ea0e38b56c8e0bc207f01d7205667dfad087d34ce", checked := Tryd.checked }
namespace Rows
def none {H : Type} : Left H := { results := [], args := [] }

/- WHAT THE LISTED PACKAGE-LEVEL VARIABLES READ AS WHEN THE CALL BEGINS. Each datum BY PROGRAM (the guide's laid-datum.mjs) off the statement by which the dump's own 'gosem.cut.vars' lays the variable. In a bare row this is a premise. The card (YtnicknnhboanoaaDoorCards.lean) ties it to the program's text. -/
def laid_math_bits_deBruijn64tab {H : Type} : DataW H := .agg [.lit (.int .u8 0), .lit (.int .u8 1), .lit (.int .u8 56), .lit (.int .u8 2), .lit (.int .u8 57), .lit (.int .u8 49), .lit (.int .u8 28), .lit (.int .u8 3), .lit (.int .u8 61), .lit (.int .u8 58), .lit (.int .u8 42), .lit (.int .u8 50), .lit (.int .u8 38), .lit (.int .u8 29), .lit (.int .u8 17), .lit (.int .u8 4), .lit (.int .u8 62), .lit (.int .u8 47), .lit (.int .u8 59), .lit (.int .u8 36), .lit (.int .u8 45), .lit (.int .u8 43), .lit (.int .u8 51), .lit (.int .u8 22), .lit (.int .u8 53), .lit (.int .u8 39), .lit (.int .u8 33), .lit (.int .u8 30), .lit (.int .u8 24), .lit (.int .u8 18), .lit (.int .u8 12), .lit (.int .u8 5), .lit (.int .u8 63), .lit (.int .u8 55), .lit (.int .u8 48), .lit (.int .u8 27), .lit (.int .u8 60), .lit (.int .u8 41), .lit (.int .u8 37), .lit (.int .u8 16), .lit (.int .u8 46), .lit (.int .u8 35), .lit (.int .u8 44), .lit (.int .u8 21), .lit (.int .u8 52), .lit (.int .u8 32), .lit (.int .u8 23), .lit (.int .u8 11), .lit (.int .u8 54), .lit (.int .u8 26), .lit (.int .u8 40), .lit (.int .u8 15), .lit (.int .u8 34), .lit (.int .u8 20), .lit (.int .u8 31), .lit (.int .u8 10), .lit (.int .u8 25), .lit (.int .u8 14), .lit (.int .u8 19), .lit (.int .u8 9), .lit (.int .u8 13), .lit (.int .u8 8), .lit (.int .u8 7), .lit (.int .u8 6)]

/-- 'carousellaw8.ConvKnown': WHATEVER THE INPUT: true; the input reads as it did. -/
def convKnownSpec : ChangeSpec := { name := "convKnown", fn := fun _ => fun
  | [] => { results := [.lit (.bool true)], args := [] }
  | _ => none }
def convKnownRow : OpenClaim := { program := "ytnicknnhboanoaadoor", sum := "8d517f6e87dff70e38e95d9ea0e38b56c8e0bc207f01d7205667dfad087d34ce", func := "carousel/carousellaw8.ConvKnown", spec := "convKnown", inPlace := ["math/bits.Sub64", "math/bits.Add64"], unfollowed := true, recurses := true, named := ["math/bits.deBruijn64tab"], apart := false, laid := [("math/bits.deBruijn64tab", laid_math_bits_deBruijn64tab)] }
def ConvKnownSaid : Prop := convKnownRow.holds Tryd.pinned (OpenSpec.ofChange convKnownSpec)

/-- ITS FALSE NEIGHBOUR: 'it returns false'. Refute it at one input. -/
def convKnownWrong : ChangeSpec := { name := "convKnown", fn := fun _ => fun
  | [] => { results := [.lit (.bool false)], args := [] }
  | _ => none }
def ConvKnownWrongFalsely : Prop := convKnownRow.holds Tryd.pinned (OpenSpec.ofChange convKnownWrong)

/-- 'carousellaw8.ConvRows': WHATEVER THE INPUT: true; the input reads as it did. -/
def convRowsSpec : ChangeSpec := { name := "convRows", fn := fun _ => fun
  | [d1, d2, d3] => { results := [.lit (.bool true)], args := [d1, d2, d3] }
  | _ => none }
def convRowsRow : OpenClaim := { program := "ytnicknnhboanoaadoor", sum := "8d517f6e87dff70e38e95d9ea0e38b56c8e0bc207f01d7205667dfad087d34ce", func := "carousel/carousellaw8.ConvRows", spec := "convRows", inPlace := ["math/bits.Sub64", "math/bits.Add64"], unfollowed := true, recurses := true, named := ["math/bits.deBruijn64tab"], apart := false, laid := [("math/bits.deBruijn64tab", laid_math_bits_deBruijn64tab)] }
def ConvRowsSaid : Prop := convRowsRow.holds Tryd.pinned (OpenSpec.ofChange convRowsSpec)

/-- ITS FALSE NEIGHBOUR: 'it returns false'. Refute it at one input. -/
def convRowsWrong : ChangeSpec := { name := "convRows", fn := fun _ => fun
  | [d1, d2, d3] => { results := [.lit (.bool false)], args := [d1, d2, d3] }
  | _ => none }
def ConvRowsWrongFalsely : Prop := convRowsRow.holds Tryd.pinned (OpenSpec.ofChange convRowsWrong)

/-- 'carousellaw8.ConvBacks': WHATEVER THE INPUT: true; the input reads as it did. -/
def convBacksSpec : ChangeSpec := { name := "convBacks", fn := fun _ => fun
  | [d1, d2, d3, d4] => { results := [.lit (.bool true)], args := [d1, d2, d3, d4] }
  | _ => none }
def convBacksRow : OpenClaim := { program := "ytnicknnhboanoaadoor", sum := "8d517f6e87dff70e38e95d9ea0e38b56c8e0bc207f01d7205667dfad087d34ce", func := "carousel/carousellaw8.ConvBacks", spec := "convBacks", inPlace := ["math/bits.Sub64", "math/bits.Add64"], unfollowed := true, recurses := true, named := ["math/bits.deBruijn64tab"], apart := false, laid := [("math/bits.deBruijn64tab", laid_math_bits_deBruijn64tab)] }
def ConvBacksSaid : Prop := convBacksRow.holds Tryd.pinned (OpenSpec.ofChange convBacksSpec)

/-- ITS FALSE NEIGHBOUR: 'it returns false'. Refute it at one input. -/
def convBacksWrong : ChangeSpec := { name := "convBacks", fn := fun _ => fun
  | [d1, d2, d3, d4] => { results := [.lit (.bool false)], args := [d1, d2, d3, d4] }
  | _ => none }
def ConvBacksWrongFalsely : Prop := convBacksRow.holds Tryd.pinned (OpenSpec.ofChange convBacksWrong)

/-- 'carousellaw8.ConvPools': WHATEVER THE INPUT: true; the input reads as it did. -/
def convPoolsSpec : ChangeSpec := { name := "convPools", fn := fun _ => fun
  | [d1, d2] => { results := [.lit (.bool true)], args := [d1, d2] }
  | _ => none }
def convPoolsRow : OpenClaim := { program := "ytnicknnhboanoaadoor", sum := "8d517f6e87dff70e38e95d9ea0e38b56c8e0bc207f01d7205667dfad087d34ce", func := "carousel/carousellaw8.ConvPools", spec := "convPools", inPlace := ["math/bits.Sub64", "math/bits.Add64"], unfollowed := true, recurses := true, named := ["math/bits.deBruijn64tab"], apart := false, laid := [("math/bits.deBruijn64tab", laid_math_bits_deBruijn64tab)] }
def ConvPoolsSaid : Prop := convPoolsRow.holds Tryd.pinned (OpenSpec.ofChange convPoolsSpec)

/-- ITS FALSE NEIGHBOUR: 'it returns false'. Refute it at one input. -/
def convPoolsWrong : ChangeSpec := { name := "convPools", fn := fun _ => fun
  | [d1, d2] => { results := [.lit (.bool false)], args := [d1, d2] }
  | _ => none }
def ConvPoolsWrongFalsely : Prop := convPoolsRow.holds Tryd.pinned (OpenSpec.ofChange convPoolsWrong)

/-- 'carousellaw8.ConvOne': WHATEVER THE INPUT: true; the input reads as it did. -/
def convOneSpec : ChangeSpec := { name := "convOne", fn := fun _ => fun
  | [d] => { results := [.lit (.bool true)], args := [d] }
  | _ => none }
def convOneRow : OpenClaim := { program := "ytnicknnhboanoaadoor", sum := "8d517f6e87dff70e38e95d9ea0e38b56c8e0bc207f01d7205667dfad087d34ce", func := "carousel/carousellaw8.ConvOne", spec := "convOne", inPlace := ["math/bits.Sub64", "math/bits.Add64"], unfollowed := true, recurses := true, named := ["math/bits.deBruijn64tab"], apart := false, laid := [("math/bits.deBruijn64tab", laid_math_bits_deBruijn64tab)] }
def ConvOneSaid : Prop := convOneRow.holds Tryd.pinned (OpenSpec.ofChange convOneSpec)

/-- ITS FALSE NEIGHBOUR: 'it returns false'. Refute it at one input. -/
def convOneWrong : ChangeSpec := { name := "convOne", fn := fun _ => fun
  | [d] => { results := [.lit (.bool false)], args := [d] }
  | _ => none }
def ConvOneWrongFalsely : Prop := convOneRow.holds Tryd.pinned (OpenSpec.ofChange convOneWrong)

/-- 'carousellaw8.ConvShifts': WHATEVER THE INPUT: true; the input reads as it did. -/
def convShiftsSpec : ChangeSpec := { name := "convShifts", fn := fun _ => fun
  | [d1, d2, d3] => { results := [.lit (.bool true)], args := [d1, d2, d3] }
  | _ => none }
def convShiftsRow : OpenClaim := { program := "ytnicknnhboanoaadoor", sum := "8d517f6e87dff70e38e95d9ea0e38b56c8e0bc207f01d7205667dfad087d34ce", func := "carousel/carousellaw8.ConvShifts", spec := "convShifts", inPlace := ["math/bits.Sub64", "math/bits.Add64"], unfollowed := true, recurses := true, named := ["math/bits.deBruijn64tab"], apart := false, laid := [("math/bits.deBruijn64tab", laid_math_bits_deBruijn64tab)] }
def ConvShiftsSaid : Prop := convShiftsRow.holds Tryd.pinned (OpenSpec.ofChange convShiftsSpec)

/-- ITS FALSE NEIGHBOUR: 'it returns false'. Refute it at one input. -/
def convShiftsWrong : ChangeSpec := { name := "convShifts", fn := fun _ => fun
  | [d1, d2, d3] => { results := [.lit (.bool false)], args := [d1, d2, d3] }
  | _ => none }
def ConvShiftsWrongFalsely : Prop := convShiftsRow.holds Tryd.pinned (OpenSpec.ofChange convShiftsWrong)

/- THE SECOND FORM. 'bulk': how many values and letters a reading holds, each counted each time it is reached (what is shared counts as often as it is met; a slice's spare places count too). A statement '..UptoSaid' is the law's where the arguments, and the package variables that the reading takes, are together of bulk at most 1048576: NARROWER than '..Said'. Prove '..Said' where nothing that the law and all that it calls make is longer than what came in: it says more and counts as full. Else prove '..UptoSaid'. A law counts once. -/
mutual
def uptoBulk {H : Type} : DataW H → Nat
  | .lit (.string bytes) => bytes.length + 1
  | .lit _ => 1
  | .nil => 1
  | .ptr d => uptoBulk d + 1
  | .slice elems spare => uptoBulkAll elems + uptoBulkAll spare + 1
  | .agg parts => uptoBulkAll parts + 1
  | .iface _ d => uptoBulk d + 1
  | .map entries => uptoBulkEntries entries + 1
  | .held _ => 1
def uptoBulkAll {H : Type} : List (DataW H) → Nat
  | [] => 0
  | d :: r => uptoBulk d + uptoBulkAll r
def uptoBulkEntries {H : Type} : List (Lit × DataW H) → Nat
  | [] => 0
  | x :: r => uptoBulkEntry x + uptoBulkEntries r
def uptoBulkEntry {H : Type} : Lit × DataW H → Nat
  | (.string bytes, d) => bytes.length + uptoBulk d + 1
  | (_, d) => uptoBulk d + 1
 end
def uptoSmall : (H : Type) → List (DataW H) → Bool := fun _ ds => decide (uptoBulkAll ds ≤ 1048576)
def OpenSpec.upto (s : _root_.Go.ChangeSpec) : _root_.Go.OpenSpec := { _root_.Go.OpenSpec.ofChange s with cond := some uptoSmall }

/-- 'carousellaw8.ConvKnown', WHERE WHAT IT READS IS OF BULK AT MOST 1048576: true; the input reads as it did. -/
def convKnownUptoRow : OpenClaim := { program := "ytnicknnhboanoaadoor", sum := "8d517f6e87dff70e38e95d9ea0e38b56c8e0bc207f01d7205667dfad087d34ce", func := "carousel/carousellaw8.ConvKnown", spec := "convKnown", inPlace := ["math/bits.Sub64", "math/bits.Add64"], unfollowed := true, recurses := true, named := ["math/bits.deBruijn64tab"], apart := false, laid := [("math/bits.deBruijn64tab", laid_math_bits_deBruijn64tab)], narrowed := true }
def ConvKnownUptoSaid : Prop := convKnownUptoRow.holds Tryd.pinned (OpenSpec.upto convKnownSpec)

/-- 'carousellaw8.ConvRows', WHERE WHAT IT READS IS OF BULK AT MOST 1048576: true; the input reads as it did. -/
def convRowsUptoRow : OpenClaim := { program := "ytnicknnhboanoaadoor", sum := "8d517f6e87dff70e38e95d9ea0e38b56c8e0bc207f01d7205667dfad087d34ce", func := "carousel/carousellaw8.ConvRows", spec := "convRows", inPlace := ["math/bits.Sub64", "math/bits.Add64"], unfollowed := true, recurses := true, named := ["math/bits.deBruijn64tab"], apart := false, laid := [("math/bits.deBruijn64tab", laid_math_bits_deBruijn64tab)], narrowed := true }
def ConvRowsUptoSaid : Prop := convRowsUptoRow.holds Tryd.pinned (OpenSpec.upto convRowsSpec)

/-- 'carousellaw8.ConvBacks', WHERE WHAT IT READS IS OF BULK AT MOST 1048576: true; the input reads as it did. -/
def convBacksUptoRow : OpenClaim := { program := "ytnicknnhboanoaadoor", sum := "8d517f6e87dff70e38e95d9ea0e38b56c8e0bc207f01d7205667dfad087d34ce", func := "carousel/carousellaw8.ConvBacks", spec := "convBacks", inPlace := ["math/bits.Sub64", "math/bits.Add64"], unfollowed := true, recurses := true, named := ["math/bits.deBruijn64tab"], apart := false, laid := [("math/bits.deBruijn64tab", laid_math_bits_deBruijn64tab)], narrowed := true }
def ConvBacksUptoSaid : Prop := convBacksUptoRow.holds Tryd.pinned (OpenSpec.upto convBacksSpec)

/-- 'carousellaw8.ConvPools', WHERE WHAT IT READS IS OF BULK AT MOST 1048576: true; the input reads as it did. -/
def convPoolsUptoRow : OpenClaim := { program := "ytnicknnhboanoaadoor", sum := "8d517f6e87dff70e38e95d9ea0e38b56c8e0bc207f01d7205667dfad087d34ce", func := "carousel/carousellaw8.ConvPools", spec := "convPools", inPlace := ["math/bits.Sub64", "math/bits.Add64"], unfollowed := true, recurses := true, named := ["math/bits.deBruijn64tab"], apart := false, laid := [("math/bits.deBruijn64tab", laid_math_bits_deBruijn64tab)], narrowed := true }
def ConvPoolsUptoSaid : Prop := convPoolsUptoRow.holds Tryd.pinned (OpenSpec.upto convPoolsSpec)

/-- 'carousellaw8.ConvOne', WHERE WHAT IT READS IS OF BULK AT MOST 1048576: true; the input reads as it did. -/
def convOneUptoRow : OpenClaim := { program := "ytnicknnhboanoaadoor", sum := "8d517f6e87dff70e38e95d9ea0e38b56c8e0bc207f01d7205667dfad087d34ce", func := "carousel/carousellaw8.ConvOne", spec := "convOne", inPlace := ["math/bits.Sub64", "math/bits.Add64"], unfollowed := true, recurses := true, named := ["math/bits.deBruijn64tab"], apart := false, laid := [("math/bits.deBruijn64tab", laid_math_bits_deBruijn64tab)], narrowed := true }
def ConvOneUptoSaid : Prop := convOneUptoRow.holds Tryd.pinned (OpenSpec.upto convOneSpec)

/-- 'carousellaw8.ConvShifts', WHERE WHAT IT READS IS OF BULK AT MOST 1048576: true; the input reads as it did. -/
def convShiftsUptoRow : OpenClaim := { program := "ytnicknnhboanoaadoor", sum := "8d517f6e87dff70e38e95d9ea0e38b56c8e0bc207f01d7205667dfad087d34ce", func := "carousel/carousellaw8.ConvShifts", spec := "convShifts", inPlace := ["math/bits.Sub64", "math/bits.Add64"], unfollowed := true, recurses := true, named := ["math/bits.deBruijn64tab"], apart := false, laid := [("math/bits.deBruijn64tab", laid_math_bits_deBruijn64tab)], narrowed := true }
def ConvShiftsUptoSaid : Prop := convShiftsUptoRow.holds Tryd.pinned (OpenSpec.upto convShiftsSpec)

end Rows
end Go.Proofs.YtnicknnhboanoaaDoor
