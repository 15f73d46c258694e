/- Plain arithmetic of fixed-point numbers, as integers: held sums, rounded quotients of sizes. Nothing of the program is named here. -/
import Derived.RowKit
import Derived.Laws.Bits64b
import Derived.Laws.BitsLemmas
namespace Go.Proofs.Ytimbidiogcfpeaa.Fx
open Go.RowKit

/-- What is beyond the ends is held there. -/
def hold (x : Int) : Int := if 9223372036854775807 < x then 9223372036854775807 else if x < -9223372036854775808 then -9223372036854775808 else x
/-- A quotient of sizes, rounded: to the nearest, of two that are as near to the even one. -/
def rq (n d : Nat) : Nat := if d < 2 * (n % d) ∨ (2 * (n % d) = d ∧ n / d % 2 = 1) then n / d + 1 else n / d
def sg (b : Bool) (n : Nat) : Int := if b then -(n : Int) else n
def differ (a b : Int) : Bool := decide (a < 0) != decide (b < 0)
def mulI (a b : Int) : Int := hold (sg (differ a b) (rq (a.natAbs * b.natAbs) 4294967296))
def overI (a : Int) : Int := if a = 0 then 0 else if a < 0 then -9223372036854775808 else 9223372036854775807
def divI (a b : Int) : Int := if b = 0 then overI a else hold (sg (differ a b) (rq (a.natAbs * 4294967296) b.natAbs))

def lim (b : Bool) : Int := if b then -9223372036854775808 else 9223372036854775807
/-- A quotient and its rest, rounded. -/
def nr (q r d : Nat) : Nat := if d < 2 * r ∨ (2 * r = d ∧ q % 2 = 1) then q + 1 else q
def InR (a : Int) : Prop := -9223372036854775808 ≤ a ∧ a ≤ 9223372036854775807

theorem hold_in {x : Int} (h1 : -9223372036854775808 ≤ x) (h2 : x ≤ 9223372036854775807) : hold x = x := by unfold hold; split <;> (try split) <;> omega
theorem hold_hi {x : Int} (h : 9223372036854775807 ≤ x) : hold x = 9223372036854775807 := by unfold hold; split <;> (try split) <;> omega
theorem hold_lo {x : Int} (h : x ≤ -9223372036854775808) : hold x = -9223372036854775808 := by unfold hold; split <;> (try split) <;> omega
theorem hold_rng (x : Int) : -9223372036854775808 ≤ hold x ∧ hold x ≤ 9223372036854775807 := by unfold hold; split <;> (try split) <;> omega
theorem hold_mono {x y : Int} (h : x ≤ y) : hold x ≤ hold y := by unfold hold; split <;> split <;> (try split) <;> (try split) <;> omega

theorem wrap64_eq (n : Int) : wrap64 n = IntKind.i64.wrap n := by rw [IntKind.wrap_i64]; rfl

/-- The sign of a bitwise operation's value is its highest bit. -/
theorem wrap_toNat_neg (v : BitVec 64) : IntKind.i64.wrap (v.toNat : Int) < 0 ↔ v.msb = true := by
  rw [IntKind.wrap_i64, BitVec.msb_eq_decide]
  have := v.isLt
  simp only [decide_eq_true_eq]
  omega
theorem ofInt_msb (a : Int) (h1 : -9223372036854775808 ≤ a) (h2 : a ≤ 9223372036854775807) : (BitVec.ofInt 64 a).msb = decide (a < 0) := by
  rw [BitVec.msb_eq_decide, BitVec.toNat_ofInt]
  rw [Bool.eq_iff_iff]
  simp only [decide_eq_true_eq]
  omega
theorem ofInt_wrap (v : BitVec 64) : BitVec.ofInt 64 (IntKind.i64.wrap (v.toNat : Int)) = v := by
  apply BitVec.eq_of_toNat_eq
  rw [BitVec.toNat_ofInt, IntKind.wrap_i64]
  have := v.isLt
  omega
theorem xor_neg (a b : Int) (ha : InR a) (hb : InR b) : bits .xor .i64 a b < 0 ↔ (decide (a < 0) != decide (b < 0)) = true := by
  show IntKind.i64.wrap ((BitVec.ofInt 64 a ^^^ BitVec.ofInt 64 b).toNat : Int) < 0 ↔ _
  rw [wrap_toNat_neg, BitVec.msb_xor, ofInt_msb a ha.1 ha.2, ofInt_msb b hb.1 hb.2]
theorem differ_iff (a b : Int) : differ a b = true ↔ (a < 0 ∧ 0 ≤ b) ∨ (0 ≤ a ∧ b < 0) := by
  unfold differ
  by_cases h1 : a < 0 <;> by_cases h2 : b < 0 <;> simp [h1, h2] <;> omega
theorem and_xor_neg (a b c d : Int) (ha : InR a) (hb : InR b) (hc : InR c) (hd : InR d) :
    bits .and .i64 (bits .xor .i64 a b) (bits .xor .i64 c d) < 0 ↔ ((a < 0 ∧ 0 ≤ b) ∨ (0 ≤ a ∧ b < 0)) ∧ ((c < 0 ∧ 0 ≤ d) ∨ (0 ≤ c ∧ d < 0)) := by
  rw [← differ_iff, ← differ_iff]
  show IntKind.i64.wrap ((BitVec.ofInt 64 (IntKind.i64.wrap ((BitVec.ofInt 64 a ^^^ BitVec.ofInt 64 b).toNat : Int)) &&& BitVec.ofInt 64 (IntKind.i64.wrap ((BitVec.ofInt 64 c ^^^ BitVec.ofInt 64 d).toNat : Int))).toNat : Int) < 0 ↔ _
  rw [wrap_toNat_neg, ofInt_wrap, ofInt_wrap, BitVec.msb_and, BitVec.msb_xor, BitVec.msb_xor, ofInt_msb a ha.1 ha.2, ofInt_msb b hb.1 hb.2, ofInt_msb c hc.1 hc.2, ofInt_msb d hd.1 hd.2]
  unfold differ
  cases decide (a < 0) <;> cases decide (b < 0) <;> cases decide (c < 0) <;> cases decide (d < 0) <;> simp
theorem wrap64_rng (n : Int) : InR (wrap64 n) := by unfold InR wrap64; omega

theorem add_over (a b : Int) (ha : InR a) (hb : InR b) (h : bits .and .i64 (bits .xor .i64 a (wrap64 (a + b))) (bits .xor .i64 b (wrap64 (a + b))) < 0) :
    hold (a + b) = if a < 0 then -9223372036854775808 else 9223372036854775807 := by
  rw [and_xor_neg a _ b _ ha (wrap64_rng _) hb (wrap64_rng _)] at h
  unfold InR at ha hb
  unfold wrap64 at h
  by_cases h1 : a < 0
  · rw [if_pos h1, hold_lo]; omega
  · rw [if_neg h1, hold_hi]; omega
theorem add_fits (a b : Int) (ha : InR a) (hb : InR b) (h : 0 ≤ bits .and .i64 (bits .xor .i64 a (wrap64 (a + b))) (bits .xor .i64 b (wrap64 (a + b)))) :
    wrap64 (a + b) = hold (a + b) := by
  have h' := mt (and_xor_neg a _ b _ ha (wrap64_rng (a + b)) hb (wrap64_rng (a + b))).2 (by omega)
  unfold InR at ha hb
  unfold wrap64 at h'
  unfold wrap64 hold
  split <;> (try split) <;> omega
theorem sub_over (a b : Int) (ha : InR a) (hb : InR b) (h : bits .and .i64 (bits .xor .i64 a b) (bits .xor .i64 a (wrap64 (a - b))) < 0) :
    hold (a - b) = if a < 0 then -9223372036854775808 else 9223372036854775807 := by
  rw [and_xor_neg a _ a _ ha hb ha (wrap64_rng _)] at h
  unfold InR at ha hb
  unfold wrap64 at h
  by_cases h1 : a < 0
  · rw [if_pos h1, hold_lo]; omega
  · rw [if_neg h1, hold_hi]; omega
theorem sub_fits (a b : Int) (ha : InR a) (hb : InR b) (h : 0 ≤ bits .and .i64 (bits .xor .i64 a b) (bits .xor .i64 a (wrap64 (a - b)))) :
    wrap64 (a - b) = hold (a - b) := by
  have h' := mt (and_xor_neg a _ a _ ha hb ha (wrap64_rng (a - b))).2 (by omega)
  unfold InR at ha hb
  unfold wrap64 at h'
  unfold wrap64 hold
  split <;> (try split) <;> omega
theorem rq_nr (n d : Nat) : nr (n / d) (n % d) d = rq n d := rfl
theorem held_far (b : Bool) (n : Nat) (h : 9223372036854775807 < n) : lim b = hold (sg b n) := by
  cases b
  · rw [hold_hi (by unfold sg; simp; omega)]; rfl
  · rw [hold_lo (by unfold sg; simp; omega)]; rfl
theorem held_up (n : Nat) (h : n ≤ 9223372036854775807) : (n : Int) = hold (sg false n) := by
  rw [hold_in (by simp [sg]; try omega) (by simp [sg]; try omega)]; rfl
theorem held_down (n : Nat) (h : n ≤ 9223372036854775807) : -(n : Int) = hold (sg true n) := by
  rw [hold_in (by simp [sg]; try omega) (by simp [sg]; try omega)]; rfl
theorem joinN (hi lo : Nat) (h1 : hi < 4294967296) (h2 : lo < 18446744073709551616) :
    bits .or .u64 ((hi : Int) * 4294967296) ((lo : Int) / 4294967296) = ((hi * 4294967296 + lo / 4294967296 : Nat) : Int) := by
  have hw : ∀ n : Int, 0 ≤ n → n < 2 ^ 64 → IntKind.u64.wrap n = n := fun n h0 h1 => by rw [IntKind.wrap_u64]; omega
  rw [bits_join .u64 64 (by decide) hw 32 _ _ (by omega) (by omega) (by omega) (by omega) (by omega) (by omega)]
  omega
theorem maskN (a : Nat) (ha : a < 18446744073709551616) : bits .and .u64 (a : Int) 4294967295 = ((a % 4294967296 : Nat) : Int) := by
  have h := bits_and_u64_nat a 4294967295 ha (by omega)
  have e : a &&& 4294967295 = a % 4294967296 := Nat.and_two_pow_sub_one_eq_mod a 32
  rw [e] at h
  exact h
theorem parts_q (hi lo : Nat) : (hi * 18446744073709551616 + lo) / 4294967296 = hi * 4294967296 + lo / 4294967296 := by omega
theorem parts_r (hi lo : Nat) : (hi * 18446744073709551616 + lo) % 4294967296 = lo % 4294967296 := by omega
theorem nr_le (q r d : Nat) : nr q r d ≤ q + 1 := by unfold nr; split <;> omega
theorem nr_ge (q r d : Nat) : q ≤ nr q r d := by unfold nr; split <;> omega
theorem le_rq (n d : Nat) : n / d ≤ rq n d := by rw [← rq_nr]; exact nr_ge _ _ _
theorem rq_le (n d : Nat) : rq n d ≤ n / d + 1 := by rw [← rq_nr]; exact nr_le _ _ _
theorem parts_lt (hi lo : Nat) (h1 : hi < 2147483648) (h2 : lo < 18446744073709551616) : rq (hi * 18446744073709551616 + lo) 4294967296 < 18446744073709551616 := by
  have := rq_le (hi * 18446744073709551616 + lo) 4294967296
  omega
/-- A product of 2^95 or more is beyond the ends. -/
theorem mul_far (a b : Int) (x y : Nat) (ea : a.natAbs = x) (eb : b.natAbs = y) (h : 2147483648 ≤ x * y / 18446744073709551616) : lim (differ a b) = mulI a b := by
  unfold mulI
  rw [ea, eb]
  have := le_rq (x * y) 4294967296
  exact held_far _ _ (by omega)
theorem mul_near (a b : Int) (x y : Nat) (ea : a.natAbs = x) (eb : b.natAbs = y) (hi lo : Nat) (e1 : hi = x * y / 18446744073709551616) (e2 : lo = x * y % 18446744073709551616) :
    hold (sg (differ a b) (rq (hi * 18446744073709551616 + lo) 4294967296)) = mulI a b := by
  unfold mulI
  rw [ea, eb, show hi * 18446744073709551616 + lo = x * y by omega]
theorem add_over' (a b : Int) (ha : InR a) (hb : InR b) (h : bits .and .i64 (bits .xor .i64 a (wrap64 (a + b))) (bits .xor .i64 b (wrap64 (a + b))) < 0) :
    lim (decide (a < 0)) = hold (a + b) := by
  rw [add_over a b ha hb h]; unfold lim; by_cases h : a < 0 <;> simp [h]
theorem sub_over' (a b : Int) (ha : InR a) (hb : InR b) (h : bits .and .i64 (bits .xor .i64 a b) (bits .xor .i64 a (wrap64 (a - b))) < 0) :
    lim (decide (a < 0)) = hold (a - b) := by
  rw [sub_over a b ha hb h]; unfold lim; by_cases h : a < 0 <;> simp [h]
theorem overI_ne (a : Int) (h : ¬ a = 0) : lim (decide (a < 0)) = overI a := by
  unfold overI lim; rw [if_neg h]; by_cases h : a < 0 <;> simp [h]
theorem div_far (a b x y : Int) (ea : (a.natAbs : Int) = x) (eb : (b.natAbs : Int) = y) (hb : b ≠ 0) (hy : 0 < y) (h : y ≤ x / 2147483648) : lim (differ a b) = divI a b := by
  unfold divI
  rw [if_neg hb]
  apply held_far
  have := le_rq (a.natAbs * 4294967296) b.natAbs
  have h2 : 9223372036854775808 ≤ a.natAbs * 4294967296 / b.natAbs := by
    rw [Nat.le_div_iff_mul_le (by omega)]
    omega
  omega
theorem div_near (a b x y : Int) (m : Nat) (ea : (a.natAbs : Int) = x) (eb : (b.natAbs : Int) = y) (hb : b ≠ 0) (hm : nr ((x * 4294967296) / y).toNat ((x * 4294967296) % y).toNat y.toNat = m) : hold (sg (differ a b) m) = divI a b := by
  unfold divI
  subst ea eb hm
  have c : (4294967296 : Int) = ((4294967296 : Nat) : Int) := rfl
  have e1 : ((a.natAbs : Int) * 4294967296 / (b.natAbs : Int)).toNat = a.natAbs * 4294967296 / b.natAbs := by
    rw [c, ← Int.natCast_mul, ← Int.natCast_ediv, Int.toNat_natCast]
  have e2 : ((a.natAbs : Int) * 4294967296 % (b.natAbs : Int)).toNat = a.natAbs * 4294967296 % b.natAbs := by
    rw [c, ← Int.natCast_mul, ← Int.natCast_emod, Int.toNat_natCast]
  rw [if_neg hb, ← rq_nr, e1, e2, Int.toNat_natCast]
end Go.Proofs.Ytimbidiogcfpeaa.Fx
