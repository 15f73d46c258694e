/- The reference's sum, difference, product, quotient of two Fix: as whole numbers. -/
import Derived.Test.YthcfeiddbffcfaaDoorRefA
import Derived.Test.YthcfeiddbffcfaaDoorRefH
import Derived.Test.YthcfeiddbffcfaaDoorRefI
import Derived.Test.YthcfeiddbffcfaaDoorDiv64
import Derived.Test.YthcfeiddbffcfaaDoorFacts
namespace Go.Proofs.YthcfeiddbffcfaaDoor.Rf
open Go.RowKit Fx
set_option linter.unusedVariables false
set_option linter.unusedSimpArgs false
theorem rqI_nat (x d : Nat) : rqI (x : Int) (d : Int) = ((rq x d : Nat) : Int) := by
  unfold rqI rq
  rw [← Int.natCast_emod, ← Int.natCast_ediv]
  generalize x % d = r
  generalize x / d = q
  split <;> split <;> omega
theorem times_any (a b : Int) (ha : InR a) (hb : InR b) (w : World) :
    Calls Tryd.prog 40 #[.int .i64 a, .int .i64 b] w fun e w' => ∃ v, e = .returned v ∧ IsN v (Fx.differ a b) ((a.natAbs * b.natAbs : Nat) : Int) ∧ Below w.heap.size w w' := by
  obtain ⟨x, ex⟩ : ∃ x : Int, (a.natAbs : Int) = x := ⟨_, rfl⟩
  obtain ⟨y, ey⟩ : ∃ y : Int, (b.natAbs : Int) = y := ⟨_, rfl⟩
  have hx : 0 ≤ x ∧ x ≤ 9223372036854775808 := by unfold InR at ha; omega
  have hy : 0 ≤ y ∧ y ≤ 9223372036854775808 := by unfold InR at hb; omega
  have hsp := times_split x y (x % 4294967296) (x / 4294967296) (y % 4294967296) (y / 4294967296) (by omega) (by omega)
  have hxy : x * y ≤ 9223372036854775808 * 9223372036854775808 := Int.mul_le_mul hx.2 hy.2 hy.1 (by omega)
  rw [Int.natCast_mul, ex, ey]
  exact Times_low a b x y (x % 4294967296) (x / 4294967296) (y % 4294967296) (y / 4294967296) _ _ _ _ (x * y) (Fx.differ a b) ha hb ⟨ex, ey⟩ (by show _ = _; unfold Fx.differ; cases decide (a < 0) <;> cases decide (b < 0) <;> rfl)
    (Kn.maskI x (by omega) (by omega)) rfl (Kn.maskI y (by omega) (by omega)) rfl hx hy (by omega) (by omega) (by omega) (by omega) rfl rfl rfl rfl
    (half_mul _ _ (by omega) (by omega)) (half_mul _ _ (by omega) (by omega)) (half_mul _ _ (by omega) (by omega)) (half_mul _ _ (by omega) (by omega)) ⟨hsp.symm, by omega⟩ w
theorem divided_any (v : Value) (s : Bool) (x by_ : Int) (hv : IsN v s x) (hby : InR by_) (h0 : by_ ≠ 0) (w : World) :
    Calls Tryd.prog 49 #[v, .int .i64 by_] w fun e w' => ∃ u, e = .returned u ∧ IsN u (s != decide (by_ < 0)) (rqI x (by_.natAbs : Int)) ∧ Below w.heap.size w w' := by
  have hr := hv.rng
  obtain ⟨a0, a1, a2, a3, rfl, p0, p1, p2, p3, hX⟩ := hv
  exact Divided_low s a0 a1 a2 a3 p0 p1 p2 p3 by_ (by_.natAbs : Int) hby (by unfold InR at hby; omega) rfl x ⟨hX, hr.1, hr.2⟩ _ (by show _ = _; cases s <;> cases decide (by_ < 0) <;> rfl) w
theorem halved_any (v : Value) (s : Bool) (x : Int) (hv : IsN v s x) (w : World) :
    Calls Tryd.prog 42 #[v, .int .i64 32] w fun e w' => ∃ u, e = .returned u ∧ IsN u s (rqI x 4294967296) ∧ Below w.heap.size w w' := by
  have hr := hv.rng
  obtain ⟨a0, a1, a2, a3, rfl, p0, p1, p2, p3, hX⟩ := hv
  exact Halved_low s a0 a1 a2 a3 p0 p1 p2 p3 32 32 ⟨rfl, by omega⟩ (by omega) x ⟨hX, hr.1, hr.2⟩ w
theorem sv_from (a : Int) : sv (decide (a < 0)) (a.natAbs : Int) = a := by
  unfold sv
  by_cases h : a < 0
  · rw [if_pos (by simpa using h)]; omega
  · rw [if_neg (by simpa using h)]; omega
theorem sv_turn (s : Bool) (x : Int) : sv (!s) x = -sv s x := by
  unfold sv; cases s <;> simp
end Go.Proofs.YthcfeiddbffcfaaDoor.Rf
