/- The reference's division, rounded: as whole numbers. -/
import Derived.Test.YtbndiadgnglkhaaRefF
import Derived.Test.YtbndiadgnglkhaaRefE
namespace Go.Proofs.Ytbndiadgnglkhaa.Rf
open Go.RowKit Fx
set_option linter.unusedVariables false
set_option linter.unusedSimpArgs false
attribute [local go_sem] setCell_drewN alloc_drewN
def qp (x d : Int) (k : Nat) : Int := x / 2 ^ k / d * 2 ^ k
theorem qp_bit (x d : Int) (k : Nat) : qp x d (k + 1) / 2 ^ k % 2 = 0 := by
  unfold qp
  rw [show (2 : Int) ^ (k + 1) = 2 * 2 ^ k by rw [Int.pow_succ, Int.mul_comm], ← Int.mul_assoc, Int.mul_ediv_cancel _ (Int.ne_of_gt (two_pos k))]
  omega
theorem half_step (x : Int) (m : Nat) : x / 2 ^ m = 2 * (x / 2 ^ (m + 1)) + x / 2 ^ m % 2 := by
  rw [div_two x m 1, show (2 : Int) ^ 1 = 2 from rfl]
  omega
theorem split_at (x d rest bt : Int) (m : Nat) (hd : 0 < d) (hr : rest = x / 2 ^ (m + 1) % d) (hb : x / 2 ^ m % 2 = bt) :
    x / 2 ^ m = d * (2 * (x / 2 ^ (m + 1) / d)) + (rest * 2 + bt) := by
  have h := half_step x m
  have e := Int.emod_add_mul_ediv (x / 2 ^ (m + 1)) d
  rw [hb] at h
  rw [h, hr]
  generalize x / 2 ^ (m + 1) = y at *
  have : d * (2 * (y / d)) = 2 * (d * (y / d)) := by rw [← Int.mul_assoc, Int.mul_comm d 2, Int.mul_assoc]
  omega
theorem dm_yes {x d rest bt : Int} {m : Nat} (hr : 0 < d ∧ 0 ≤ rest ∧ rest < d ∧ rest = x / 2 ^ (m + 1) % d) (hb : x / 2 ^ m % 2 = bt) (h2 : 0 ≤ bt ∧ bt ≤ 1) (hge : d ≤ rest * 2 + bt) :
    x / 2 ^ m / d = 2 * (x / 2 ^ (m + 1) / d) + 1 ∧ x / 2 ^ m % d = rest * 2 + bt - d := by
  have e := split_at x d rest bt m hr.1 hr.2.2.2 hb
  refine (Int.ediv_emod_unique hr.1).2 ⟨?_, by omega, by omega⟩
  rw [e, Int.mul_add]
  omega
theorem dm_no {x d rest bt : Int} {m : Nat} (hr : 0 < d ∧ 0 ≤ rest ∧ rest < d ∧ rest = x / 2 ^ (m + 1) % d) (hb : x / 2 ^ m % 2 = bt) (h2 : 0 ≤ bt ∧ bt ≤ 1) (hge : ¬ d ≤ rest * 2 + bt) :
    x / 2 ^ m / d = 2 * (x / 2 ^ (m + 1) / d) ∧ x / 2 ^ m % d = rest * 2 + bt := by
  have e := split_at x d rest bt m hr.1 hr.2.2.2 hb
  refine (Int.ediv_emod_unique hr.1).2 ⟨?_, by omega, by omega⟩
  rw [e]
  omega
theorem pow_up (q : Int) (m : Nat) : 2 * q * 2 ^ m = q * 2 ^ (m + 1) := by
  rw [Int.pow_succ, Int.mul_comm 2 q, Int.mul_assoc, Int.mul_comm 2]
theorem dq_yes {x d rest bt : Int} {m : Nat} (hr : 0 < d ∧ 0 ≤ rest ∧ rest < d ∧ rest = x / 2 ^ (m + 1) % d) (hb : x / 2 ^ m % 2 = bt) (h2 : 0 ≤ bt ∧ bt ≤ 1) (hge : d ≤ rest * 2 + bt) : qp x d m = qp x d (m + 1) + 2 ^ m := by
  unfold qp
  rw [(dm_yes hr hb h2 hge).1, Int.add_mul, pow_up, Int.one_mul]
theorem dq_no {x d rest bt : Int} {m : Nat} (hr : 0 < d ∧ 0 ≤ rest ∧ rest < d ∧ rest = x / 2 ^ (m + 1) % d) (hb : x / 2 ^ m % 2 = bt) (h2 : 0 ≤ bt ∧ bt ≤ 1) (hge : ¬ d ≤ rest * 2 + bt) : qp x d m = qp x d (m + 1) := by
  unfold qp
  rw [(dm_no hr hb h2 hge).1, pow_up]
theorem dr_yes {x d rest bt : Int} {m : Nat} (hr : 0 < d ∧ 0 ≤ rest ∧ rest < d ∧ rest = x / 2 ^ (m + 1) % d) (hb : x / 2 ^ m % 2 = bt) (h2 : 0 ≤ bt ∧ bt ≤ 1) (hge : d ≤ rest * 2 + bt) : Hid (0 < d ∧ 0 ≤ rest * 2 + bt - d ∧ rest * 2 + bt - d < d ∧ rest * 2 + bt - d = x / 2 ^ m % d) :=
  ⟨hr.1, by omega, by omega, (dm_yes hr hb h2 hge).2.symm⟩
theorem dr_no {x d rest bt : Int} {m : Nat} (hr : 0 < d ∧ 0 ≤ rest ∧ rest < d ∧ rest = x / 2 ^ (m + 1) % d) (hb : x / 2 ^ m % 2 = bt) (h2 : 0 ≤ bt ∧ bt ≤ 1) (hge : ¬ d ≤ rest * 2 + bt) : Hid (0 < d ∧ 0 ≤ rest * 2 + bt ∧ rest * 2 + bt < d ∧ rest * 2 + bt = x / 2 ^ m % d) :=
  ⟨hr.1, by omega, by omega, (dm_no hr hb h2 hge).2.symm⟩
theorem or_low (a b : Int) (ha : 0 ≤ a ∧ a < 9223372036854775808) (hb : 0 ≤ b ∧ b ≤ 1) : bits .or .u64 (a * 2) b = a * 2 + b := by
  have hw : ∀ n : Int, 0 ≤ n → n < 2 ^ 64 → IntKind.u64.wrap n = n := fun n h0 h1 => by rw [IntKind.wrap_u64]; omega
  exact bits_join .u64 64 (by decide) hw 1 _ _ (by omega) (by omega) (by omega) (by omega) (by omega) (by omega)
theorem qd_lt {x d : Int} (h0 : 0 ≤ x) (h1 : x < 2 ^ 256) (hd : 0 < d) (hr : 0 < x % d) : x / d < 2 ^ 256 - 1 := by
  have h := Int.emod_add_mul_ediv x d
  have hq : 0 ≤ x / d := Int.ediv_nonneg h0 (by omega)
  have hm : 1 * (x / d) ≤ d * (x / d) := Int.mul_le_mul_of_nonneg_right (by omega) hq
  omega
/-- A quotient of whole numbers, rounded. -/
def rqI (x d : Int) : Int := if d < 2 * (x % d) ∨ (2 * (x % d) = d ∧ x / d % 2 = 1) then x / d + 1 else x / d
end Go.Proofs.Ytbndiadgnglkhaa.Rf
