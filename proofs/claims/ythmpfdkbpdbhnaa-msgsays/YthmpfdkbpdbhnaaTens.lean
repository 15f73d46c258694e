/- A struct of two slices of integers that came in by value (a tensor): what a walk is told of it. Nothing of the program is named here. -/
import Derived.Test.YthmpfdkbpdbhnaaRow
import Derived.Lib.SmallJoins
namespace Go.Proofs.Ythmpfdkbpdbhnaa.Wd
open Go.ChangeShapes Go.WideShapes Go.ChangeAt Go.RowKit Go.Joins Go.Deep
set_option linter.unusedVariables false
set_option linter.unusedSimpArgs false
theorem open_tens {H : Type} {enc : TypeId × Value → H} {P : Program} {W : World} {r : Reach} {b0 : Nat} {t e0 e1 : TypeId} {f0 f1 : Field} {k0 k1 : IntKind} {v : Value} {d : DataW H} {ps : List MemPlace}
    (hs : P.underlying t = some (.struct #[f0, f1])) (hone : oneCellFields P #[f0, f1] = true) (hC : P.cellsOf t = 2)
    (t0 : P.underlying f0.type = some (.slice e0)) (u0 : P.underlying e0 = some (.int k0)) (c0 : P.cellsOf e0 = 1) (t1 : P.underlying f1.type = some (.slice e1)) (u1 : P.underlying e1 = some (.int k1)) (c1 : P.cellsOf e1 = 1)
    (hv : Value.okWide P W r b0 t v) (h : DataW.Trod enc P W 0 (fun _ => true) true t v d ps) :
    ∃ (a : Option Addr) (n c : Nat) (z : Nat → Int) (a' : Option Addr) (n' c' : Nat) (z' : Nat → Int), v = .agg #[.slice a n c, .slice a' n' c'] ∧ RowN k0 W a n c z ∧ RowN k1 W a' n' c' z' := by
  obtain ⟨v0, v1, y0, y1, m, rfl, _, _, h0, h1⟩ := open_agg2 hs hone hC hv h
  have s0 : ∃ a n c, v0 = .slice a n c := by
    rcases open_ints t0 u0 c0 h0 with ⟨e, _⟩ | ⟨x, l, c', zs, e, _⟩
    · simp at e; exact ⟨_, _, _, e⟩
    · simp at e; exact ⟨_, _, _, e⟩
  have s1 : ∃ a n c, v1 = .slice a n c := by
    rcases open_ints t1 u1 c1 h1 with ⟨e, _⟩ | ⟨x, l, c', zs, e, _⟩
    · simp at e; exact ⟨_, _, _, e⟩
    · simp at e; exact ⟨_, _, _, e⟩
  obtain ⟨a, n, c, rfl⟩ := s0
  obtain ⟨a', n', c', rfl⟩ := s1
  obtain ⟨z, hz⟩ := open_rowN (d := y0.1) (ps := y0.2) t0 u0 c0 ⟨m, h0⟩
  obtain ⟨z', hz'⟩ := open_rowN (d := y1.1) (ps := y1.2) t1 u1 c1 ⟨m, h1⟩
  exact ⟨a, n, c, z, a', n', c', z', rfl, hz, hz'⟩
end Go.Proofs.Ythmpfdkbpdbhnaa.Wd
