/- Bent lines and their slopes, as numbers: they rise, they stay within bounds, bent again they stay; between two points of one piece a line rises by its slope. Nothing of the program is named here. -/
import Derived.Test.YtlehlikgehbnfaaMath
namespace Go.Proofs.Ytlehlikgehbnfaa.Fx
open Go.RowKit
set_option linter.unusedVariables false
set_option linter.unusedSimpArgs false
/-- A number by 8, by 2: rounded to the even one half way. -/
def by8 (x : Int) : Int := sg (decide (x < 0)) (rq x.natAbs 8)
def by2 (x : Int) : Int := sg (decide (x < 0)) (rq x.natAbs 2)
theorem rq_scale (n d k : Nat) (hk : 0 < k) (hd : 0 < d) : rq (n * k) (d * k) = rq n d := by
  unfold rq
  rw [Nat.mul_div_mul_right _ _ hk, Nat.mul_mod_mul_right]
  have e1 : d * k < 2 * (n % d * k) ↔ d < 2 * (n % d) := by
    rw [← Nat.mul_assoc]
    exact Nat.mul_lt_mul_right hk
  have e2 : 2 * (n % d * k) = d * k ↔ 2 * (n % d) = d := by
    rw [← Nat.mul_assoc]
    exact Nat.mul_left_inj (by omega)
  simp only [e1, e2]
theorem rq8_rng (n : Nat) : rq n 8 ≤ n := by
  unfold rq
  split <;> omega
theorem rq2_rng (n : Nat) : rq n 2 ≤ n := by
  unfold rq
  split <;> omega
theorem by8_rng {x : Int} (h : InR x) : InR (by8 x) := by
  unfold InR at h ⊢
  have := rq8_rng x.natAbs
  unfold by8 sg
  split
  · rename_i hs
    have := of_decide_eq_true hs
    omega
  · rename_i hs
    have : ¬ x < 0 := fun c => hs (decide_eq_true c)
    omega
theorem by2_rng {x : Int} (h : InR x) : InR (by2 x) := by
  unfold InR at h ⊢
  have := rq2_rng x.natAbs
  unfold by2 sg
  split
  · rename_i hs
    have := of_decide_eq_true hs
    omega
  · rename_i hs
    have : ¬ x < 0 := fun c => hs (decide_eq_true c)
    omega
theorem div8 {x : Int} (h : InR x) : divI x 34359738368 = by8 x := by
  have hr := by8_rng h
  unfold divI
  rw [if_neg (by omega)]
  have e1 : differ x 34359738368 = decide (x < 0) := by
    unfold differ
    rw [show decide ((34359738368 : Int) < 0) = false from rfl]
    cases decide (x < 0) <;> rfl
  have e2 : rq (x.natAbs * 4294967296) (34359738368 : Int).natAbs = rq x.natAbs 8 := rq_scale x.natAbs 8 4294967296 (by omega) (by omega)
  rw [e1, e2]
  exact hold_in hr.1 hr.2
theorem div2 {x : Int} (h : InR x) : divI x 8589934592 = by2 x := by
  have hr := by2_rng h
  unfold divI
  rw [if_neg (by omega)]
  have e1 : differ x 8589934592 = decide (x < 0) := by
    unfold differ
    rw [show decide ((8589934592 : Int) < 0) = false from rfl]
    cases decide (x < 0) <;> rfl
  have e2 : rq (x.natAbs * 4294967296) (8589934592 : Int).natAbs = rq x.natAbs 2 := rq_scale x.natAbs 2 4294967296 (by omega) (by omega)
  rw [e1, e2]
  exact hold_in hr.1 hr.2
/-- The lines, by kind; their slopes. -/
def bendI (k x : Int) : Int :=
  if k = 1 then (if x < 0 then 0 else x)
  else if k = 2 then (if 0 < x then x else by8 x)
  else if k = 3 then (if 4294967296 < x then 4294967296 else if x < -4294967296 then -4294967296 else x)
  else if k = 4 then (if x < 0 then hold (-x) else x)
  else (if hold (by2 x + 2147483648) < 0 then 0 else if 4294967296 < hold (by2 x + 2147483648) then 4294967296 else hold (by2 x + 2147483648))
def slopeI (k x : Int) : Int :=
  if k = 1 then (if 0 < x then 4294967296 else 0)
  else if k = 2 then (if 0 < x then 4294967296 else 536870912)
  else if k = 3 then (if -4294967296 < x ∧ x < 4294967296 then 4294967296 else 0)
  else if k = 4 then (if 0 < x then 4294967296 else if x < 0 then -4294967296 else 0)
  else (if -4294967296 < x ∧ x < 4294967296 then 2147483648 else 0)
theorem bend_1 (x : Int) : bendI 1 x = if x < 0 then 0 else x := if_pos rfl
theorem bend_2 (x : Int) : bendI 2 x = if 0 < x then x else by8 x := (if_neg (by decide)).trans (if_pos rfl)
theorem bend_3 (x : Int) : bendI 3 x = if 4294967296 < x then 4294967296 else if x < -4294967296 then -4294967296 else x := (if_neg (by decide)).trans ((if_neg (by decide)).trans (if_pos rfl))
theorem bend_4 (x : Int) : bendI 4 x = if x < 0 then hold (-x) else x := (if_neg (by decide)).trans ((if_neg (by decide)).trans ((if_neg (by decide)).trans (if_pos rfl)))
theorem slope_1 (x : Int) : slopeI 1 x = if 0 < x then 4294967296 else 0 := if_pos rfl
theorem slope_2 (x : Int) : slopeI 2 x = if 0 < x then 4294967296 else 536870912 := (if_neg (by decide)).trans (if_pos rfl)
theorem slope_3 (x : Int) : slopeI 3 x = if -4294967296 < x ∧ x < 4294967296 then 4294967296 else 0 := (if_neg (by decide)).trans ((if_neg (by decide)).trans (if_pos rfl))
theorem slope_4 (x : Int) : slopeI 4 x = if 0 < x then 4294967296 else if x < 0 then -4294967296 else 0 := (if_neg (by decide)).trans ((if_neg (by decide)).trans ((if_neg (by decide)).trans (if_pos rfl)))
theorem bend_5 (x : Int) : bendI 5 x = if hold (by2 x + 2147483648) < 0 then 0 else if 4294967296 < hold (by2 x + 2147483648) then 4294967296 else hold (by2 x + 2147483648) := (if_neg (by decide)).trans ((if_neg (by decide)).trans ((if_neg (by decide)).trans (if_neg (by decide))))
theorem slope_5 (x : Int) : slopeI 5 x = if -4294967296 < x ∧ x < 4294967296 then 2147483648 else 0 := (if_neg (by decide)).trans ((if_neg (by decide)).trans ((if_neg (by decide)).trans (if_neg (by decide))))
theorem slope_rng (k x : Int) : InR (slopeI k x) := by
  unfold slopeI InR
  repeat' split
  all_goals omega
theorem bend_rng {k x : Int} (h : InR x) : InR (bendI k x) := by
  have h8 := by8_rng h
  have hh := hold_rng (-x)
  unfold InR at *
  unfold bendI
  repeat' split
  all_goals omega
theorem rq8_mono {m n : Nat} (h : m ≤ n) : rq m 8 ≤ rq n 8 := by
  unfold rq
  split <;> split <;> omega
theorem rq2_mono {m n : Nat} (h : m ≤ n) : rq m 2 ≤ rq n 2 := by
  unfold rq
  split <;> split <;> omega
theorem by8_mono {a b : Int} (h : a ≤ b) : by8 a ≤ by8 b := by
  unfold by8 sg
  by_cases ha : a < 0
  · by_cases hb : b < 0
    · have := rq8_mono (show b.natAbs ≤ a.natAbs by omega)
      simp [ha, hb]
      omega
    · simp [ha, hb]
  · have hb : ¬ b < 0 := by omega
    have := rq8_mono (show a.natAbs ≤ b.natAbs by omega)
    simp [ha, hb]
    omega
theorem by2_mono {a b : Int} (h : a ≤ b) : by2 a ≤ by2 b := by
  unfold by2 sg
  by_cases ha : a < 0
  · by_cases hb : b < 0
    · have := rq2_mono (show b.natAbs ≤ a.natAbs by omega)
      simp [ha, hb]
      omega
    · simp [ha, hb]
  · have hb : ¬ b < 0 := by omega
    have := rq2_mono (show a.natAbs ≤ b.natAbs by omega)
    simp [ha, hb]
    omega
theorem by8_le {x : Int} (h : ¬ 0 < x) : by8 x ≤ 0 := by
  have := by8_mono (show x ≤ 0 by omega)
  have e : by8 0 = 0 := by decide
  omega
/-- ActRises: a line but size never falls. -/
theorem bend_mono {k a b : Int} (hk : k ≠ 4) (h : a ≤ b) : bendI k a ≤ bendI k b := by
  have h8 := by8_mono h
  have h2 := hold_mono (show by2 a + 2147483648 ≤ by2 b + 2147483648 by have := by2_mono h; omega)
  unfold bendI
  by_cases k1 : k = 1
  · rw [if_pos k1, if_pos k1]
    repeat' split
    all_goals omega
  by_cases k2 : k = 2
  · rw [if_neg k1, if_neg k1, if_pos k2, if_pos k2]
    by_cases ha : 0 < a
    · rw [if_pos ha, if_pos (by omega)]
      exact h
    · have := by8_le ha
      rw [if_neg ha]
      split <;> omega
  by_cases k3 : k = 3
  · rw [if_neg k1, if_neg k1, if_neg k2, if_neg k2, if_pos k3, if_pos k3]
    repeat' split
    all_goals omega
  rw [if_neg k1, if_neg k1, if_neg k2, if_neg k2, if_neg k3, if_neg k3, if_neg hk, if_neg hk]
  generalize hold (by2 a + 2147483648) = p at *
  generalize hold (by2 b + 2147483648) = q at *
  repeat' split
  all_goals omega
theorem bend_low1 (x : Int) : 0 ≤ bendI 1 x := by
  unfold bendI
  rw [if_pos rfl]
  split <;> omega
theorem bend_in3 (x : Int) : -4294967296 ≤ bendI 3 x ∧ bendI 3 x ≤ 4294967296 := by
  unfold bendI
  rw [if_neg (by omega), if_neg (by omega), if_pos rfl]
  repeat' split
  all_goals omega
theorem bend_in5 (x : Int) : 0 ≤ bendI 5 x ∧ bendI 5 x ≤ 4294967296 := by
  unfold bendI
  rw [if_neg (by omega), if_neg (by omega), if_neg (by omega), if_neg (by omega)]
  repeat' split
  all_goals omega
/-- ActTwice. -/
theorem bend_twice {k x : Int} (hx : InR x) (hk : k = 1 ∨ k = 3 ∨ k = 4) : bendI k (bendI k x) = bendI k x := by
  unfold InR at hx
  rcases hk with rfl | rfl | rfl
  · have := bend_low1 x
    generalize bendI 1 x = y at *
    unfold bendI
    rw [if_pos rfl, if_neg (by omega)]
  · have := bend_in3 x
    generalize bendI 3 x = y at *
    unfold bendI
    rw [if_neg (by omega), if_neg (by omega), if_pos rfl, if_neg (by omega), if_neg (by omega)]
  · have h0 : 0 ≤ bendI 4 x := by
      unfold bendI hold
      rw [if_neg (by omega), if_neg (by omega), if_neg (by omega), if_pos rfl]
      repeat' split
      all_goals omega
    generalize bendI 4 x = y at *
    unfold bendI
    rw [if_neg (by omega), if_neg (by omega), if_neg (by omega), if_pos rfl, if_neg (by omega)]
theorem rq_whole (n d : Nat) (hd : 0 < d) : rq (n * d) d = n := by
  unfold rq
  rw [Nat.mul_mod_left, Nat.mul_div_cancel _ hd, if_neg (by omega)]
/-- By nought, by One, by One below nought. -/
theorem mul_by0 (x : Int) : mulI x 0 = 0 := by
  unfold mulI
  rw [show x.natAbs * (0 : Int).natAbs = 0 from Nat.mul_zero _, show rq 0 4294967296 = 0 from rfl]
  unfold sg
  split <;> decide
theorem mul_one_ {x : Int} (h : InR x) : mulI x 4294967296 = x := by
  unfold mulI
  rw [show x.natAbs * (4294967296 : Int).natAbs = x.natAbs * 4294967296 from rfl, rq_whole _ _ (by omega)]
  have e1 : differ x 4294967296 = decide (x < 0) := by
    unfold differ
    rw [show decide ((4294967296 : Int) < 0) = false from rfl]
    cases decide (x < 0) <;> rfl
  rw [e1]
  unfold sg
  by_cases hx : x < 0
  · simp only [hx, decide_true, if_true]
    rw [hold_in (by unfold InR at h; omega) (by unfold InR at h; omega)]
    omega
  · simp only [hx, decide_false]
    rw [if_neg (by simp), hold_in (by unfold InR at h; omega) (by unfold InR at h; omega)]
    omega
theorem mul_below {x : Int} (h : -9223372036854775807 ≤ x ∧ x ≤ 9223372036854775807) : mulI x (-4294967296) = -x := by
  unfold mulI
  rw [show x.natAbs * (-4294967296 : Int).natAbs = x.natAbs * 4294967296 from rfl, rq_whole _ _ (by omega)]
  have e1 : differ x (-4294967296) = !decide (x < 0) := by
    unfold differ
    rw [show decide ((-4294967296 : Int) < 0) = true from rfl]
    cases decide (x < 0) <;> rfl
  rw [e1]
  unfold sg
  by_cases hx : x < 0
  · simp only [hx, decide_true, Bool.not_true]
    rw [if_neg (by simp), hold_in (by omega) (by omega)]
    omega
  · simp only [hx, decide_false, Bool.not_false, if_true]
    rw [hold_in (by omega) (by omega)]
    omega
/-- ActSlopes: on one piece of a line it rises by its slope. -/
theorem bend_slope {k a b : Int} (hk : k = 1 ∨ k = 3 ∨ k = 4) (h : a < b) (ha : -1152921504606846976 ≤ a) (hb : b ≤ 1152921504606846976) (hs : slopeI k a = slopeI k b) (h1 : ¬ (a < 0 ∧ 0 < b ∧ k ≠ 3)) (h2 : ¬ (a ≤ -4294967296 ∧ 4294967296 ≤ b)) : bendI k b - bendI k a = mulI (b - a) (slopeI k a) := by
  have m0 := mul_by0 (b - a)
  have m1 := mul_one_ (x := b - a) (by unfold InR; omega)
  have m2 := mul_below (x := b - a) (by omega)
  rcases hk with rfl | rfl | rfl
  · rw [slope_1, slope_1] at hs
    rw [slope_1, bend_1, bend_1]
    by_cases pa : 0 < a
    · rw [if_pos pa, m1, if_neg (by omega), if_neg (by omega)]
    · rw [if_neg pa] at hs ⊢
      have pb : ¬ 0 < b := fun c => by rw [if_pos c] at hs; omega
      rw [m0]
      split <;> split <;> omega
  · rw [slope_3, slope_3] at hs
    rw [slope_3, bend_3, bend_3]
    by_cases pa : -4294967296 < a ∧ a < 4294967296
    · rw [if_pos pa] at hs ⊢
      have pb : -4294967296 < b ∧ b < 4294967296 := by
        by_cases c : -4294967296 < b ∧ b < 4294967296
        · exact c
        · rw [if_neg c] at hs
          omega
      rw [m1, if_neg (by omega), if_neg (by omega), if_neg (by omega), if_neg (by omega)]
    · rw [if_neg pa] at hs ⊢
      have pb : ¬ (-4294967296 < b ∧ b < 4294967296) := fun c => by rw [if_pos c] at hs; omega
      rw [m0]
      repeat' split
      all_goals omega
  · rw [slope_4, slope_4] at hs
    rw [slope_4, bend_4, bend_4]
    by_cases pa : 0 < a
    · rw [if_pos pa, m1, if_neg (by omega), if_neg (by omega)]
    · rw [if_neg pa] at hs ⊢
      by_cases na : a < 0
      · rw [if_pos na] at hs ⊢
        have pb : b < 0 := by
          by_cases c : 0 < b
          · rw [if_pos c] at hs
            omega
          · rw [if_neg c] at hs
            by_cases d : b < 0
            · exact d
            · rw [if_neg d] at hs
              omega
        rw [if_pos na, m2, if_pos pb, hold_in (by omega) (by omega), hold_in (by omega) (by omega)]
        omega
      · rw [if_neg na] at hs ⊢
        have pb : 0 < b := by omega
        rw [if_pos pb] at hs
        omega
end Go.Proofs.Ytlehlikgehbnfaa.Fx
