/- Tensors: what tens.Good, tens.Same, slices.Clone, slices.Equal of numbers hand back; the reference's Is, Alike. Tensors: what tens.Same and the reference's Alike hand back; the law's great and row. -/
import Derived.Test.YtimbidiogcfpeaaShpA
import Derived.Test.YtimbidiogcfpeaaShpF
import Derived.Test.YtimbidiogcfpeaaTnsM
import Derived.Test.YtimbidiogcfpeaaFlow
namespace Go.Proofs.Ytimbidiogcfpeaa.Wd
open Go.RowKit
set_option linter.unusedVariables false
set_option linter.unusedSimpArgs false
/-- A tensor: a shape, and as many numbers as that has. -/
abbrev isP (d x : List Int) : Prop := goodN (ntl d) ∧ x.length = prodN (ntl d)
theorem cell_low {w w' : World} {v : Value} {b o : Nat} (h : w.cell? ⟨b, o, none⟩ = some v) (hB : Below w.heap.size w w') : w'.cell? ⟨b, o, none⟩ = some v := still_cell hB h
theorem beq_dec (a b : Int) : (a == b) = decide (a = b) := by
  by_cases h : a = b <;> simp [h]
/-- A struct of two values in a block. -/
def Box (w : World) (b : Nat) (s t : Value) : Prop := w.cell? ⟨b, 0, none⟩ = some s ∧ w.cell? ⟨b, 1, none⟩ = some t
theorem Box.up {w w' : World} {b : Nat} {s t : Value} (h : Box w b s t) (hB : Below w.heap.size w w') : Box w' b s t := ⟨cell_low h.1 hB, cell_low h.2 hB⟩
end Go.Proofs.Ytimbidiogcfpeaa.Wd
namespace Go.Proofs.Ytimbidiogcfpeaa.Wd
open Go.RowKit
set_option linter.unusedVariables false
set_option linter.unusedSimpArgs false
end Go.Proofs.Ytimbidiogcfpeaa.Wd
