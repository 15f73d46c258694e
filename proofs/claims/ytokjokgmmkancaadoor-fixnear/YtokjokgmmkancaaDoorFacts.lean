/- Facts of rounded and held numbers: plain arithmetic. Nothing of the program is named here. -/
import Derived.Test.YtokjokgmmkancaaDoorMath
namespace Go.Proofs.YtokjokgmmkancaaDoor.Fx
open Go.RowKit
set_option linter.unusedVariables false
theorem and_one (n : Int) : bits .and .i64 n 1 = n % 2 := by
  have h1 : (BitVec.ofInt 64 1).toNat = 2 ^ 1 - 1 := by decide
  have key : (BitVec.ofInt 64 n &&& BitVec.ofInt 64 1).toNat = (n % ((2 ^ 64 : Nat) : Int)).toNat % 2 ^ 1 := by
    rw [BitVec.toNat_and, BitVec.toNat_ofInt, h1, Nat.and_two_pow_sub_one_eq_mod]
  show IntKind.i64.wrap ((BitVec.ofInt 64 n &&& BitVec.ofInt 64 1).toNat : Nat) = n % 2
  rw [key, IntKind.wrap_i64]
  omega
theorem sg_mul (a b : Int) : a * b = sg (differ a b) (a.natAbs * b.natAbs) := by
  unfold sg differ
  rcases Int.lt_or_le a 0 with ha | ha <;> rcases Int.lt_or_le b 0 with hb | hb
  · simp only [ha, hb, decide_true, bne_self_eq_false, Bool.false_eq_true, if_false]
    rw [Int.natCast_mul, Int.ofNat_natAbs_of_nonpos (by omega), Int.ofNat_natAbs_of_nonpos (by omega), Int.neg_mul_neg]
  · have hb' : ¬ b < 0 := by omega
    simp only [ha, hb', decide_true, decide_false]
    rw [if_pos (by decide), Int.natCast_mul, Int.ofNat_natAbs_of_nonpos (by omega), Int.natAbs_of_nonneg hb, Int.neg_mul, Int.neg_neg]
  · have ha' : ¬ a < 0 := by omega
    simp only [ha', hb, decide_true, decide_false]
    rw [if_pos (by decide), Int.natCast_mul, Int.ofNat_natAbs_of_nonpos (a := b) (by omega), Int.natAbs_of_nonneg ha, Int.mul_neg, Int.neg_neg]
  · have ha' : ¬ a < 0 := by omega
    have hb' : ¬ b < 0 := by omega
    simp only [ha', hb', decide_false, bne_self_eq_false, Bool.false_eq_true, if_false]
    rw [Int.natCast_mul, Int.natAbs_of_nonneg ha, Int.natAbs_of_nonneg hb]
theorem sg_sub (s : Bool) (p m : Nat) (k : Int) : sg s p - sg s m * k = if s then -((p : Int) - m * k) else (p : Int) - m * k := by
  cases s
  · rfl
  · show -(p : Int) - -(m : Int) * k = -((p : Int) - m * k)
    rw [Int.neg_mul]; omega
/-- A rounded quotient is off by half of one at most, and even where it is off by half. -/
theorem rq_near (n d : Nat) (hd : 0 < d) : 2 * n ≤ 2 * (rq n d * d) + d ∧ 2 * (rq n d * d) ≤ 2 * n + d ∧ ((2 * n = 2 * (rq n d * d) + d ∨ 2 * (rq n d * d) = 2 * n + d) → rq n d % 2 = 0) := by
  have h := Nat.div_add_mod n d
  have hm := Nat.mod_lt n hd
  rw [Nat.mul_comm] at h
  unfold rq
  split
  · rw [Nat.add_mul]
    omega
  · omega
theorem mul_small (a b : Int) (ha : -2147483648 ≤ a ∧ a ≤ 2147483647) (hb : -2147483648 ≤ b ∧ b ≤ 2147483647) :
    (-4611686018427387904 ≤ a * b ∧ a * b ≤ 4611686018427387904) ∧ (-1073741824 ≤ mulI a b ∧ mulI a b ≤ 1073741824) ∧
    a * b - mulI a b * 4294967296 ≤ 2147483648 ∧ -2147483648 ≤ a * b - mulI a b * 4294967296 ∧
    (a * b - mulI a b * 4294967296 = 2147483648 ∨ a * b - mulI a b * 4294967296 = -2147483648 → mulI a b % 2 = 0) := by
  have hp : a.natAbs * b.natAbs ≤ 2147483648 * 2147483648 := Nat.mul_le_mul (by omega) (by omega)
  have hr := rq_near (a.natAbs * b.natAbs) 4294967296 (by omega)
  have hs := sg_mul a b
  unfold mulI
  rw [hs]
  generalize a.natAbs * b.natAbs = p at *
  generalize rq p 4294967296 = m at *
  generalize differ a b = s at *
  have hm : m ≤ 1073741824 := by omega
  rw [hold_in (by cases s <;> simp [sg] <;> omega) (by cases s <;> simp [sg] <;> omega), sg_sub]
  cases s <;> simp [sg] <;> omega
end Go.Proofs.YtokjokgmmkancaaDoor.Fx
