/- The reference's signed sum and its held answer, as whole numbers; its sums and differences of two Fix. -/
import Derived.Test.YtbndiadgnglkhaaRefD
namespace Go.Proofs.Ytbndiadgnglkhaa.Rf
open Go.RowKit Fx
set_option linter.unusedVariables false
set_option linter.unusedSimpArgs false
attribute [local go_sem] setCell_drewN alloc_drewN
def sv (s : Bool) (x : Int) : Int := if s then -x else x
theorem plus_any (v u : Value) (s t : Bool) (x y : Int) (hv : IsN v s x) (hu : IsN u t y) (hxy : x + y < 115792089237316195423570985008687907853269984665640564039457584007913129639936) (w : World) :
    Calls Try.prog 66 #[v, u] w fun e w' => ∃ z r m, e = .returned z ∧ IsN z r m ∧ sv r m = sv s x + sv t y ∧ Below w.heap.size w w' := by
  have hx := hv.rng
  have hy := hu.rng
  obtain ⟨a0, a1, a2, a3, rfl, p0, p1, p2, p3, hX⟩ := hv
  obtain ⟨b0, b1, b2, b3, rfl, q0, q1, q2, q3, hY⟩ := hu
  by_cases hst : s = t
  · subst hst
    refine (Plus_same s a0 a1 a2 a3 b0 b1 b2 b3 p0 p1 p2 p3 q0 q1 q2 q3 w).mono ?_
    rintro e w' ⟨c0, c1, c2, c3, cr, rfl, u0, u1, u2, u3, hinv, hb⟩
    refine ⟨_, s, x + y, rfl, ⟨c0, c1, c2, c3, rfl, u0, u1, u2, u3, ?_⟩, ?_, hb⟩
    · have h := hinv.out
      rw [hX, hY, BP4] at h
      have hc : 0 ≤ PS 4 c0 c1 c2 c3 := by rw [PS4]; unfold U at *; omega
      omega
    · unfold sv; split <;> omega
  · have hst' : (s == t) = false := by simpa using hst
    by_cases hlt : x < y
    · refine (Plus_lt s t hst' a0 a1 a2 a3 b0 b1 b2 b3 p0 p1 p2 p3 q0 q1 q2 q3 (by show decide _ = true; rw [hX, hY]; simpa using hlt) w).mono ?_
      rintro e w' ⟨c0, c1, c2, c3, cr, rfl, u0, u1, u2, u3, hinv, hb⟩
      refine ⟨_, t, y - x, rfl, ⟨c0, c1, c2, c3, rfl, u0, u1, u2, u3, ?_⟩, ?_, hb⟩
      · have h := hinv.out
        rw [hX, hY, BP4] at h
        have hc : PS 4 c0 c1 c2 c3 < 115792089237316195423570985008687907853269984665640564039457584007913129639936 := by rw [PS4]; unfold U at *; omega
        omega
      · unfold sv; cases s <;> cases t <;> simp at * <;> omega
    · refine (Plus_ge s t hst' a0 a1 a2 a3 b0 b1 b2 b3 p0 p1 p2 p3 q0 q1 q2 q3 (by show decide _ = false; rw [hX, hY]; simpa using hlt) w).mono ?_
      rintro e w' ⟨c0, c1, c2, c3, cr, rfl, u0, u1, u2, u3, hinv, hb⟩
      refine ⟨_, s, x - y, rfl, ⟨c0, c1, c2, c3, rfl, u0, u1, u2, u3, ?_⟩, ?_, hb⟩
      · have h := hinv.out
        rw [hX, hY, BP4] at h
        have hc : PS 4 c0 c1 c2 c3 < 115792089237316195423570985008687907853269984665640564039457584007913129639936 := by rw [PS4]; unfold U at *; omega
        omega
      · unfold sv; cases s <;> cases t <;> simp at * <;> omega
theorem or_zero (a b : Int) (ha : U a) (hb : U b) : U (bits .or .u64 a b) ∧ (bits .or .u64 a b = 0 ↔ a = 0 ∧ b = 0) := by
  obtain ⟨a, rfl⟩ := Int.eq_ofNat_of_zero_le ha.1
  obtain ⟨b, rfl⟩ := Int.eq_ofNat_of_zero_le hb.1
  unfold U at *
  have h : a ||| b < 2 ^ 64 := Nat.or_lt_two_pow (by omega) (by omega)
  rw [bits_or_u64_nat a b (by omega) (by omega)]
  refine ⟨by omega, ?_⟩
  have := @Nat.or_eq_zero_iff a b
  omega
theorem held_ref (v : Value) (s : Bool) (x : Int) (hv : IsN v s x) (w : World) :
    Calls Try.prog 65 #[v] w fun e w' => e = .returned (.int .i64 (hold (sv s x))) ∧ Below w.heap.size w w' := by
  have hx := hv.rng
  obtain ⟨a0, a1, a2, a3, rfl, p0, p1, p2, p3, hX⟩ := hv
  have o1 := or_zero a1 a2 p1 p2
  have o2 := or_zero _ a3 o1.1 p3
  obtain ⟨o, eo⟩ : ∃ o, bits .or .u64 (bits .or .u64 a1 a2) a3 = o := ⟨_, rfl⟩
  rw [eo] at o2
  rw [PS4] at hX
  obtain ⟨z, ez⟩ : ∃ z, hold (sv s x) = z := ⟨_, rfl⟩
  rw [ez]
  have key : ((o != 0) = true ∧ lim s = z) ∨ ((o != 0) = false ∧ 9223372036854775808 ≤ a0 ∧ lim s = z) ∨ ((o != 0) = false ∧ a0 < 9223372036854775808 ∧ 0 ≤ a0 ∧ (if s then -a0 else a0) = z) := by
    unfold U at *
    rw [o1.2] at o2
    by_cases h0 : o = 0
    · have hz := o2.2.1 h0
      by_cases h1 : 9223372036854775808 ≤ a0
      · refine Or.inr (Or.inl ⟨by simpa using h0, h1, ?_⟩)
        rw [← ez]
        cases s
        · rw [hold_hi (by simp [sv]; omega)]; rfl
        · rw [hold_lo (by simp [sv]; omega)]; rfl
      · refine Or.inr (Or.inr ⟨by simpa using h0, by omega, by omega, ?_⟩)
        rw [← ez]
        have e : x = a0 := by omega
        subst e
        cases s
        · rw [hold_in (by simp [sv]; omega) (by simp [sv]; omega)]; rfl
        · rw [hold_in (by simp [sv]; omega) (by simp [sv]; omega)]; rfl
    · refine Or.inl ⟨by simpa using h0, ?_⟩
      have hz : ¬ ((a1 = 0 ∧ a2 = 0) ∧ a3 = 0) := fun h => h0 (o2.2.2 h)
      rw [← ez]
      cases s
      · rw [hold_hi (by simp [sv]; omega)]; rfl
      · rw [hold_lo (by simp [sv]; omega)]; rfl
  clear ez hX hx o1 o2
  unfold U at p0 p1 p2 p3
  rcases key with ⟨k1, k2⟩ | ⟨k1, k2, k3⟩ | ⟨k1, k2, k3, k4⟩
  all_goals
    cases s
  all_goals
    go_enter Try.func65, Try.ntmps65
    go_wp2
    go_ret
    exact ⟨ret_int (by assumption), by go_grown⟩
end Go.Proofs.Ytbndiadgnglkhaa.Rf
