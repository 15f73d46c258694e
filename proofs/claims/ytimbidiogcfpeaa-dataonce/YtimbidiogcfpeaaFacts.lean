/- Facts of rounded and held numbers: plain arithmetic. Nothing of the program is named here. -/
import Derived.Test.YtimbidiogcfpeaaMath
namespace Go.Proofs.Ytimbidiogcfpeaa.Fx
open Go.RowKit
set_option linter.unusedVariables false
theorem and_one (n : Int) : bits .and .i64 n 1 = n % 2 := by
  have h1 : (BitVec.ofInt 64 1).toNat = 2 ^ 1 - 1 := by decide
  have key : (BitVec.ofInt 64 n &&& BitVec.ofInt 64 1).toNat = (n % ((2 ^ 64 : Nat) : Int)).toNat % 2 ^ 1 := by
    rw [BitVec.toNat_and, BitVec.toNat_ofInt, h1, Nat.and_two_pow_sub_one_eq_mod]
  show IntKind.i64.wrap ((BitVec.ofInt 64 n &&& BitVec.ofInt 64 1).toNat : Nat) = n % 2
  rw [key, IntKind.wrap_i64]
  omega
theorem sg_mul (a b : Int) : a * b = sg (differ a b) (a.natAbs * b.natAbs) := by
  unfold sg differ
  rcases Int.lt_or_le a 0 with ha | ha <;> rcases Int.lt_or_le b 0 with hb | hb
  · simp only [ha, hb, decide_true, bne_self_eq_false, Bool.false_eq_true, if_false]
    rw [Int.natCast_mul, Int.ofNat_natAbs_of_nonpos (by omega), Int.ofNat_natAbs_of_nonpos (by omega), Int.neg_mul_neg]
  · have hb' : ¬ b < 0 := by omega
    simp only [ha, hb', decide_true, decide_false]
    rw [if_pos (by decide), Int.natCast_mul, Int.ofNat_natAbs_of_nonpos (by omega), Int.natAbs_of_nonneg hb, Int.neg_mul, Int.neg_neg]
  · have ha' : ¬ a < 0 := by omega
    simp only [ha', hb, decide_true, decide_false]
    rw [if_pos (by decide), Int.natCast_mul, Int.ofNat_natAbs_of_nonpos (a := b) (by omega), Int.natAbs_of_nonneg ha, Int.mul_neg, Int.neg_neg]
  · have ha' : ¬ a < 0 := by omega
    have hb' : ¬ b < 0 := by omega
    simp only [ha', hb', decide_false, bne_self_eq_false, Bool.false_eq_true, if_false]
    rw [Int.natCast_mul, Int.natAbs_of_nonneg ha, Int.natAbs_of_nonneg hb]
theorem sg_sub (s : Bool) (p m : Nat) (k : Int) : sg s p - sg s m * k = if s then -((p : Int) - m * k) else (p : Int) - m * k := by
  cases s
  · rfl
  · show -(p : Int) - -(m : Int) * k = -((p : Int) - m * k)
    rw [Int.neg_mul]; omega
/-- A rounded quotient is off by half of one at most, and even where it is off by half. -/
theorem rq_near (n d : Nat) (hd : 0 < d) : 2 * n ≤ 2 * (rq n d * d) + d ∧ 2 * (rq n d * d) ≤ 2 * n + d ∧ ((2 * n = 2 * (rq n d * d) + d ∨ 2 * (rq n d * d) = 2 * n + d) → rq n d % 2 = 0) := by
  have h := Nat.div_add_mod n d
  have hm := Nat.mod_lt n hd
  rw [Nat.mul_comm] at h
  unfold rq
  split
  · rw [Nat.add_mul]
    omega
  · omega
theorem mul_small (a b : Int) (ha : -2147483648 ≤ a ∧ a ≤ 2147483647) (hb : -2147483648 ≤ b ∧ b ≤ 2147483647) :
    (-4611686018427387904 ≤ a * b ∧ a * b ≤ 4611686018427387904) ∧ (-1073741824 ≤ mulI a b ∧ mulI a b ≤ 1073741824) ∧
    a * b - mulI a b * 4294967296 ≤ 2147483648 ∧ -2147483648 ≤ a * b - mulI a b * 4294967296 ∧
    (a * b - mulI a b * 4294967296 = 2147483648 ∨ a * b - mulI a b * 4294967296 = -2147483648 → mulI a b % 2 = 0) := by
  have hp : a.natAbs * b.natAbs ≤ 2147483648 * 2147483648 := Nat.mul_le_mul (by omega) (by omega)
  have hr := rq_near (a.natAbs * b.natAbs) 4294967296 (by omega)
  have hs := sg_mul a b
  unfold mulI
  rw [hs]
  generalize a.natAbs * b.natAbs = p at *
  generalize rq p 4294967296 = m at *
  generalize differ a b = s at *
  have hm : m ≤ 1073741824 := by omega
  rw [hold_in (by cases s <;> simp [sg] <;> omega) (by cases s <;> simp [sg] <;> omega), sg_sub]
  cases s <;> simp [sg] <;> omega
theorem rq_mul (n d : Nat) (hd : 0 < d) : rq (n * d) d = n := by
  unfold rq
  rw [Nat.mul_mod_left, Nat.mul_div_cancel _ hd, if_neg (by omega)]
theorem rq_mono (n m d : Nat) (hd : 0 < d) (h : n ≤ m) : rq n d ≤ rq m d := by
  have hq : n / d ≤ m / d := Nat.div_le_div_right h
  rcases Nat.lt_or_eq_of_le hq with hlt | heq
  · exact Nat.le_trans (rq_le n d) (Nat.le_trans hlt (le_rq m d))
  · have h1 := Nat.div_add_mod n d
    have h2 := Nat.div_add_mod m d
    rw [heq] at h1
    unfold rq
    rw [heq]
    split <;> split <;> omega
theorem rq_zero (d : Nat) : rq 0 d = 0 := by
  unfold rq
  rw [Nat.zero_mod, Nat.zero_div]
  split <;> omega
/-- A whole number's quotient, rounded, with its sign. -/
def rnd (n : Int) (d : Nat) : Int := if n < 0 then -(rq n.natAbs d : Int) else rq n.natAbs d
theorem rnd_mono (n m : Int) (d : Nat) (hd : 0 < d) (h : n ≤ m) : rnd n d ≤ rnd m d := by
  unfold rnd
  split <;> split
  · have := rq_mono m.natAbs n.natAbs d hd (by omega)
    omega
  · omega
  · omega
  · have := rq_mono n.natAbs m.natAbs d hd (by omega)
    omega
theorem mulI_rnd (a b : Int) : mulI a b = hold (rnd (a * b) 4294967296) := by
  unfold mulI
  congr 1
  have h := sg_mul a b
  have hn : (a * b).natAbs = a.natAbs * b.natAbs := Int.natAbs_mul a b
  unfold rnd
  rw [hn]
  generalize a.natAbs * b.natAbs = p at *
  by_cases hp : p = 0
  · subst hp
    rw [rq_zero]
    cases differ a b <;> simp [sg]
  · rw [h]
    cases differ a b
    · rw [if_neg (by simp [sg])]; rfl
    · rw [if_pos (by simp [sg]; omega)]; rfl
theorem divI_pos (a b : Int) (hb : 0 < b) : divI a b = hold (rnd (a * 4294967296) b.natAbs) := by
  unfold divI
  rw [if_neg (by omega)]
  congr 1
  have hn : (a * 4294967296).natAbs = a.natAbs * 4294967296 := Int.natAbs_mul a 4294967296
  unfold rnd sg
  rw [hn]
  by_cases ha : a < 0
  · rw [if_pos ((differ_iff a b).2 (by omega)), if_pos (by omega)]
  · rw [if_neg (by rw [differ_iff]; omega), if_neg (by omega)]
theorem divI_neg (a b : Int) (hb : b < 0) : divI a b = hold (rnd (-(a * 4294967296)) b.natAbs) := by
  unfold divI
  rw [if_neg (by omega)]
  congr 1
  have hn : (-(a * 4294967296)).natAbs = a.natAbs * 4294967296 := by rw [Int.natAbs_neg]; exact Int.natAbs_mul a 4294967296
  unfold rnd sg
  rw [hn]
  by_cases ha : 0 < a
  · rw [if_pos ((differ_iff a b).2 (by omega)), if_pos (by omega)]
  · by_cases h0 : a = 0
    · subst h0
      simp [rq_zero]
    · rw [if_neg (by rw [differ_iff]; omega), if_neg (by omega)]
theorem mulI_comm (a b : Int) : mulI a b = mulI b a := by rw [mulI_rnd, mulI_rnd, Int.mul_comm]
theorem rnd_mul (a : Int) (d : Nat) (hd : 0 < d) : rnd (a * d) d = a := by
  unfold rnd
  rw [Int.natAbs_mul, Int.natAbs_natCast, rq_mul _ _ hd]
  by_cases ha : a < 0
  · rw [if_pos (Int.mul_neg_of_neg_of_pos ha (by omega))]; omega
  · rw [if_neg (by have := Int.mul_nonneg (show 0 ≤ a by omega) (show (0 : Int) ≤ d by omega); omega)]; omega
theorem mulI_one (a : Int) (ha : InR a) : mulI a 4294967296 = a := by
  rw [mulI_rnd, show (4294967296 : Int) = ((4294967296 : Nat) : Int) from rfl, rnd_mul _ _ (by omega), hold_in ha.1 ha.2]
theorem divI_one (a : Int) (ha : InR a) : divI a 4294967296 = a := by
  rw [divI_pos _ _ (by omega), show (4294967296 : Int).natAbs = 4294967296 from rfl, show (4294967296 : Int) = ((4294967296 : Nat) : Int) from rfl, rnd_mul _ _ (by omega), hold_in ha.1 ha.2]
theorem mulI_le (a b c : Int) (h : a ≤ b) (hc : 0 ≤ c) : mulI a c ≤ mulI b c := by
  rw [mulI_rnd, mulI_rnd]
  exact hold_mono (rnd_mono _ _ _ (by omega) (Int.mul_le_mul_of_nonneg_right h hc))
theorem mulI_ge (a b c : Int) (h : a ≤ b) (hc : c < 0) : mulI b c ≤ mulI a c := by
  rw [mulI_rnd, mulI_rnd]
  exact hold_mono (rnd_mono _ _ _ (by omega) (Int.mul_le_mul_of_nonpos_right h (by omega)))
theorem divI_le (a b c : Int) (h : a ≤ b) (hc : 0 < c) : divI a c ≤ divI b c := by
  rw [divI_pos _ _ hc, divI_pos _ _ hc]
  exact hold_mono (rnd_mono _ _ _ (by omega) (by omega))
theorem mulI_rng (a b : Int) : InR (mulI a b) := by unfold mulI; exact hold_rng _
theorem divI_rng (a b : Int) : InR (divI a b) := by
  unfold divI overI
  split
  · unfold InR; split <;> (try split) <;> omega
  · exact hold_rng _
end Go.Proofs.Ytimbidiogcfpeaa.Fx
