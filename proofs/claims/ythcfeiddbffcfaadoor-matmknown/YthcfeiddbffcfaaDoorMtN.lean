/- What is known where Mul tells no error; what Flip and Mul hand back of matrices that fit. -/
import Derived.Test.YthcfeiddbffcfaaDoorMtL
namespace Go.Proofs.YthcfeiddbffcfaaDoor.Wd
open Go.RowKit Fx
set_option linter.unusedVariables false
set_option linter.unusedSimpArgs false
theorem RI_flip {n m : Nat} {x : List Int} (h : RI x) : RI (flipV n m x) := fun q hq => by
  obtain ⟨i, _, rfl⟩ := List.mem_map.1 hq
  exact getD_inR h _
theorem RI_mulV {n k m : Nat} (x y : List Int) : RI (mulV n k m x y) := fun q hq => by
  obtain ⟨i, _, rfl⟩ := List.mem_map.1 hq
  exact rnd_rng _
/-- What is known where Mul tells no error. -/
theorem mul_zero {d x d' y : List Int} (h : mE d x d' y = 0) : ∃ N K M' : Nat, d = [(N : Int), (K : Int)] ∧ d' = [(K : Int), (M' : Int)] ∧ x.length = N * K ∧ y.length = K * M' ∧ 1 ≤ N ∧ 1 ≤ K ∧ 1 ≤ M' ∧ N * K ≤ 4096 ∧ K * M' ≤ 4096 ∧ N * M' ≤ 4096 ∧ mD d x d' y = [(N : Int), (M' : Int)] ∧ mV d x d' y = mulV N K M' x y := by
  by_cases hp : isP d x ∧ isP d' y
  · by_cases hm : mP d x d' y
    · by_cases hg : mG d d'
      · obtain ⟨e1, e2, e3⟩ := m_fine hm hg
        obtain ⟨D0, D1, rfl, hx0, k0, k1, k2⟩ := two_sides hp.1 hm.2.2.1
        obtain ⟨E0, E1, rfl, hy0, l0, l1, l2⟩ := two_sides hp.2 hm.2.1
        have e : D1 = E0 := by have := hm.2.2.2; simp at this; omega
        subst e
        have hg' := good_two.1 hg
        exact ⟨D0, D1, E1, rfl, rfl, hx0, hy0, k0, k1, l1, k2, l2, hg'.2.2, e2, e3⟩
      · rw [(m_limit hm hg).1] at h; cases h
    · rw [(m_shape hp hm).1] at h; cases h
  · rw [(m_arg hp).1] at h; cases h
theorem fl_at {N M' : Nat} {x : List Int} (hx : x.length = N * M') (h0 : 1 ≤ N) (h1 : 1 ≤ M') (hl : N * M' ≤ 4096) : flE [(N : Int), (M' : Int)] x = 0 ∧ flD [(N : Int), (M' : Int)] x = [(M' : Int), (N : Int)] ∧ flV [(N : Int), (M' : Int)] x = flipV N M' x := by
  obtain ⟨a, b, c⟩ := fl_two (is_two hx h0 h1 hl) rfl
  obtain ⟨a', b', c'⟩ := turn_two hx h0 h1 hl
  exact ⟨a.trans a', b.trans b', c.trans c'⟩
theorem m_at {N K M' : Nat} {x y : List Int} (hx : x.length = N * K) (hy : y.length = K * M') (h0 : 1 ≤ N) (h1 : 1 ≤ K) (h2 : 1 ≤ M') (l1 : N * K ≤ 4096) (l2 : K * M' ≤ 4096) (l3 : N * M' ≤ 4096) :
    mE [(N : Int), (K : Int)] x [(K : Int), (M' : Int)] y = 0 ∧ mD [(N : Int), (K : Int)] x [(K : Int), (M' : Int)] y = [(N : Int), (M' : Int)] ∧ mV [(N : Int), (K : Int)] x [(K : Int), (M' : Int)] y = mulV N K M' x y :=
  m_fine ⟨⟨is_two hx h0 h1 l1, is_two hy h1 h2 l2⟩, rfl, rfl, rfl⟩ (good_two.2 ⟨h0, h2, l3⟩)
end Go.Proofs.YthcfeiddbffcfaaDoor.Wd
