/- The reference's numbers, by what they stand for: sums, products, rounding. -/
import Derived.Test.YthcfeiddbffcfaaDoorRefJ
import Derived.Test.YthcfeiddbffcfaaDoorMtM
namespace Go.Proofs.YthcfeiddbffcfaaDoor.Rf
open Go.RowKit Fx
set_option linter.unusedVariables false
set_option linter.unusedSimpArgs false
/-- The number that a value stands for. -/
def IsS (v : Value) (S : Int) : Prop := ∃ s x, IsN v s x ∧ sv s x = S
theorem abs_of {v : Value} {s : Bool} {x S : Int} (h : IsN v s x) (e : sv s x = S) : x = (S.natAbs : Int) := by
  have := h.rng
  unfold sv at e
  cases s <;> simp at e <;> omega
theorem IsS.rng {v : Value} {S : Int} (h : IsS v S) : -115792089237316195423570985008687907853269984665640564039457584007913129639936 < S ∧ S < 115792089237316195423570985008687907853269984665640564039457584007913129639936 := by
  obtain ⟨s, x, h1, h2⟩ := h
  have := h1.rng
  have := abs_of h1 h2
  omega
theorem zeroS : IsS (.agg #[.bool false, .int .u64 0, .int .u64 0, .int .u64 0, .int .u64 0]) 0 := ⟨false, 0, ⟨0, 0, 0, 0, rfl, by unfold U; omega, by unfold U; omega, by unfold U; omega, by unfold U; omega, by rw [PS4]; rfl⟩, rfl⟩
theorem IsS.agg {v : Value} {S : Int} (h : IsS v S) : ∃ s a0 a1 a2 a3, v = .agg #[.bool s, .int .u64 a0, .int .u64 a1, .int .u64 a2, .int .u64 a3] ∧ IsS (.agg #[.bool s, .int .u64 a0, .int .u64 a1, .int .u64 a2, .int .u64 a3]) S := by
  have h' := h
  obtain ⟨s, x, ⟨a0, a1, a2, a3, rfl, _⟩, _⟩ := h
  exact ⟨s, a0, a1, a2, a3, rfl, h'⟩
theorem plusS (v u : Value) (S T : Int) (hv : IsS v S) (hu : IsS u T) (hb : (S.natAbs : Int) + (T.natAbs : Int) < 115792089237316195423570985008687907853269984665640564039457584007913129639936) (w : World) :
    Calls Tryd.prog 39 #[v, u] w fun e w' => ∃ z, e = .returned z ∧ IsS z (S + T) ∧ Below w.heap.size w w' := by
  obtain ⟨s, x, h1, h2⟩ := hv
  obtain ⟨t, y, h3, h4⟩ := hu
  refine (plus_any v u s t x y h1 h3 (by rw [abs_of h1 h2, abs_of h3 h4]; exact hb) w).mono ?_
  rintro e w' ⟨z, r, m, rfl, h5, h6, h7⟩
  exact ⟨z, rfl, ⟨r, m, h5, by rw [h6, h2, h4]⟩, h7⟩
theorem sv_prod (a b : Int) : sv (Fx.differ a b) ((a.natAbs * b.natAbs : Nat) : Int) = a * b := by
  rw [Int.natCast_mul]
  obtain ⟨x, ex⟩ : ∃ x : Int, (a.natAbs : Int) = x := ⟨_, rfl⟩
  obtain ⟨y, ey⟩ : ∃ y : Int, (b.natAbs : Int) = y := ⟨_, rfl⟩
  rw [ex, ey]
  unfold sv Fx.differ
  by_cases h1 : a < 0 <;> by_cases h2 : b < 0 <;> simp only [h1, h2, decide_true, decide_false]
  · rw [show x = -a by omega, show y = -b by omega]
    exact Int.neg_mul_neg a b
  · rw [show x = -a by omega, show y = b by omega]
    show -(-a * b) = _
    rw [Int.neg_mul, Int.neg_neg]
  · rw [show x = a by omega, show y = -b by omega]
    show -(a * -b) = _
    rw [Int.mul_neg, Int.neg_neg]
  · rw [show x = a by omega, show y = b by omega]
    rfl
theorem timesS (a b : Int) (ha : InR a) (hb : InR b) (w : World) :
    Calls Tryd.prog 40 #[.int .i64 a, .int .i64 b] w fun e w' => ∃ z, e = .returned z ∧ IsS z (a * b) ∧ Below w.heap.size w w' := by
  refine (times_any a b ha hb w).mono ?_
  rintro e w' ⟨z, rfl, h5, h7⟩
  exact ⟨z, rfl, ⟨_, _, h5, sv_prod a b⟩, h7⟩
theorem fromS (a : Int) (ha : InR a) (w : World) :
    Calls Tryd.prog 46 #[.int .i64 a] w fun e w' => ∃ z, e = .returned z ∧ IsS z a ∧ Below w.heap.size w w' := by
  refine (from_any a ha w).mono ?_
  rintro e w' ⟨z, rfl, h5, h7⟩
  exact ⟨z, rfl, ⟨_, _, h5, sv_from a⟩, h7⟩
theorem sv_rq (s : Bool) (x d : Int) (hd : 0 < d) : sv s (rqI x d) = Wd.rqI (sv s x) d := by
  unfold sv
  cases s
  · rfl
  · exact (Wd.rqI_neg x d hd).symm
theorem halvedS (v : Value) (S : Int) (hv : IsS v S) (w : World) :
    Calls Tryd.prog 42 #[v, .int .i64 32] w fun e w' => ∃ z, e = .returned z ∧ IsS z (Wd.rqI S 4294967296) ∧ Below w.heap.size w w' := by
  obtain ⟨s, x, h1, h2⟩ := hv
  refine (halved_any v s x h1 w).mono ?_
  rintro e w' ⟨z, rfl, h5, h7⟩
  exact ⟨z, rfl, ⟨_, _, h5, by rw [sv_rq _ _ _ (by omega), h2]⟩, h7⟩
theorem dividedS (v : Value) (S n : Int) (hv : IsS v S) (hn : InR n) (h0 : 0 < n) (w : World) :
    Calls Tryd.prog 49 #[v, .int .i64 n] w fun e w' => ∃ z, e = .returned z ∧ IsS z (Wd.rqI S n) ∧ Below w.heap.size w w' := by
  obtain ⟨s, x, h1, h2⟩ := hv
  refine (divided_any v s x n h1 hn (by omega) w).mono ?_
  rintro e w' ⟨z, rfl, h5, h7⟩
  refine ⟨z, rfl, ⟨_, _, h5, ?_⟩, h7⟩
  rw [show decide (n < 0) = false from decide_eq_false (by omega), Bool.bne_false, show ((n.natAbs : Nat) : Int) = n by omega, sv_rq _ _ _ h0, h2]
theorem heldS (v : Value) (S : Int) (hv : IsS v S) (w : World) :
    Calls Tryd.prog 41 #[v] w fun e w' => e = .returned (.int .i64 (hold S)) ∧ Below w.heap.size w w' := by
  obtain ⟨s, x, h1, h2⟩ := hv
  rw [← h2]
  exact held_ref v s x h1 w
end Go.Proofs.YthcfeiddbffcfaaDoor.Rf
