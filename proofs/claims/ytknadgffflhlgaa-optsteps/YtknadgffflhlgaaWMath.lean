/- Plain arithmetic of numbers of 128 bits with a sign: two words stand for a number. Nothing of the program is named here. -/
import Derived.Test.YtknadgffflhlgaaMath
import Derived.Lib.TrailingZeros
namespace Go.Proofs.Ytknadgffflhlgaa.Wd
open Go.RowKit Fx
set_option linter.unusedVariables false
/-- Two words that stand for a number. -/
def wd (v : Int) : Value := .agg #[.int .i64 (v / 18446744073709551616), .int .u64 (v % 18446744073709551616)]
def InW (v : Int) : Prop := -170141183460469231731687303715884105728 ≤ v ∧ v < 170141183460469231731687303715884105728
def wr (v : Int) : Int := (v + 170141183460469231731687303715884105728) % 340282366920938463463374607431768211456 - 170141183460469231731687303715884105728
theorem wr_rng (v : Int) : InW (wr v) := by unfold InW wr; omega
theorem wr_in {v : Int} (h : InW v) : wr v = v := by unfold InW at h; unfold wr; omega
theorem wr_add (a b : Int) : wr (wr a + b) = wr (a + b) := by unfold wr; omega
theorem wr_add' (a b : Int) : wr (a + wr b) = wr (a + b) := by unfold wr; omega
theorem InR.w {a : Int} (h : InR a) : InW a := by unfold InR at h; unfold InW; omega
theorem wd_inj {a b : Int} (h : wd a = wd b) : a = b := by
  unfold wd at h
  injection h with h
  simp only [Array.mk.injEq, List.cons.injEq, Value.int.injEq, true_and, and_true] at h
  omega
theorem wd_mk (h l : Int) (hl : 0 ≤ l ∧ l < 18446744073709551616) : Value.agg #[.int .i64 h, .int .u64 l] = wd (h * 18446744073709551616 + l) := by
  unfold wd
  have e1 : (h * 18446744073709551616 + l) / 18446744073709551616 = h := by omega
  have e2 : (h * 18446744073709551616 + l) % 18446744073709551616 = l := by omega
  rw [e1, e2]
theorem wd_eq {h l v : Int} (e1 : h = v / 18446744073709551616) (e2 : l = v % 18446744073709551616) : Value.agg #[.int .i64 h, .int .u64 l] = wd v := by
  subst e1 e2; rfl
theorem ret_wd {h l v : Int} (e1 : h = v / 18446744073709551616) (e2 : l = v % 18446744073709551616) : Ending.returned (.agg #[.int .i64 h, .int .u64 l]) = .returned (wd v) := by
  rw [wd_eq e1 e2]
/-- A quotient, rounded: to the nearest, of two that are as near to the even one; on both sides of 0. -/
def rqI (x d : Int) : Int := if d < 2 * (x % d) ∨ (2 * (x % d) = d ∧ x / d % 2 = 1) then x / d + 1 else x / d
theorem rqI_neg (x d : Int) (hd : 0 < d) : rqI (-x) d = -rqI x d := by
  obtain ⟨q, eq⟩ : ∃ q, x / d = q := ⟨_, rfl⟩
  obtain ⟨r, er⟩ : ∃ r, x % d = r := ⟨_, rfl⟩
  have h0 : 0 ≤ r := er ▸ Int.emod_nonneg x (by omega)
  have h1 : r < d := er ▸ Int.emod_lt_of_pos x hd
  have hx : d * q + r = x := by rw [← eq, ← er]; exact Int.mul_ediv_add_emod x d
  by_cases hr : r = 0
  · have e : (-x) / d = -q ∧ (-x) % d = 0 := by
      rw [Int.ediv_emod_unique hd]
      refine ⟨?_, by omega, hd⟩
      rw [← hx, hr, Int.mul_neg]; omega
    unfold rqI
    rw [e.1, e.2, eq, er, hr]
    split <;> split <;> omega
  · have e : (-x) / d = -q - 1 ∧ (-x) % d = d - r := by
      rw [Int.ediv_emod_unique hd]
      refine ⟨?_, by omega, by omega⟩
      rw [← hx, Int.mul_sub, Int.mul_neg]; omega
    unfold rqI
    rw [e.1, e.2, eq, er]
    split <;> split <;> omega
theorem rqI_nat (x d : Nat) : rqI (x : Int) (d : Int) = ((rq x d : Nat) : Int) := by
  unfold rqI rq
  have e1 : (x : Int) % d = ((x % d : Nat) : Int) := by omega
  have e2 : (x : Int) / d = ((x / d : Nat) : Int) := by omega
  rw [e1, e2]
  split <;> split <;> omega
theorem rqI_sg (s : Bool) (x d : Nat) (hd : 0 < d) : rqI (sg s x) d = sg s (rq x d) := by
  cases s
  · exact rqI_nat x d
  · show rqI (-(x : Int)) d = -((rq x d : Nat) : Int)
    rw [rqI_neg _ _ (by omega), rqI_nat]
theorem dd (x : Int) {p q : Int} (hp : 0 < p) : x / p / q = x / (p * q) := by
  rw [Int.ediv_ediv, if_neg (fun c => by omega), Int.sub_zero]
theorem emod_two (x p : Int) (hp : 0 < p) : x % (p * 2) = x % p + p * (x / p % 2) := by
  have h1 := Int.mul_ediv_add_emod x p
  have h2 := Int.mul_ediv_add_emod x (p * 2)
  have h3 := Int.mul_ediv_add_emod (x / p) 2
  rw [dd x hp] at h3
  rw [Int.mul_assoc] at h2
  have : p * (x / p) = p * (2 * (x / (p * 2))) + p * (x / p % 2) := by rw [← Int.mul_add, h3]
  omega
/-- Rounding towards the lower one, then the half's bit, then what is below. -/
theorem rq_down (x : Int) (k : Nat) (hb : x / 2 ^ k % 2 = 0) : rqI x (2 ^ (k + 1)) = x / 2 ^ (k + 1) := by
  obtain ⟨p, ep⟩ : ∃ p : Int, (2 : Int) ^ k = p := ⟨_, rfl⟩
  have hp : 0 < p := ep ▸ Int.pow_pos (by decide)
  have e1 : (2 : Int) ^ (k + 1) = p * 2 := by rw [Int.pow_succ, ep]
  rw [ep] at hb
  have e2 : x % (p * 2) = x % p + p * (x / p % 2) := emod_two x p hp
  unfold rqI
  rw [e1, e2, hb]
  have := Int.emod_lt_of_pos x hp
  have := Int.emod_nonneg x (show p ≠ 0 by omega)
  rw [if_neg]
  omega
theorem rq_up (x : Int) (k : Nat) (hb : x / 2 ^ k % 2 = 1) : rqI x (2 ^ (k + 1)) = x / 2 ^ (k + 1) + (if x / 2 ^ (k + 1) % 2 = 1 ∨ x % 2 ^ k ≠ 0 then 1 else 0) := by
  obtain ⟨p, ep⟩ : ∃ p : Int, (2 : Int) ^ k = p := ⟨_, rfl⟩
  have hp : 0 < p := ep ▸ Int.pow_pos (by decide)
  have e1 : (2 : Int) ^ (k + 1) = p * 2 := by rw [Int.pow_succ, ep]
  rw [ep] at hb ⊢
  have e2 : x % (p * 2) = x % p + p * (x / p % 2) := emod_two x p hp
  unfold rqI
  rw [e1, e2, hb]
  have := Int.emod_lt_of_pos x hp
  have := Int.emod_nonneg x (show p ≠ 0 by omega)
  split <;> split <;> omega
/-- The lower one, in its words. -/
theorem fl_hi (a : Int) (n : Nat) : a / 2 ^ n / 18446744073709551616 = a / 18446744073709551616 / 2 ^ n := by
  rw [dd a (Int.pow_pos (by decide)), dd a (by decide), Int.mul_comm]
theorem fl_far (a : Int) (n : Nat) (h : 64 ≤ n) : a / 2 ^ n = a / 18446744073709551616 / 2 ^ (n - 64) := by
  rw [dd a (by decide), show (18446744073709551616 : Int) = 2 ^ 64 by decide, ← Int.pow_add, show 64 + (n - 64) = n by omega]
theorem or_nat (x y : Nat) (hx : x < 18446744073709551616) (hy : y < 18446744073709551616) : bits .or .u64 (x : Int) (y : Int) = ((x ||| y : Nat) : Int) := by
  show IntKind.u64.wrap ((BitVec.ofInt 64 (x : Int) ||| BitVec.ofInt 64 (y : Int)).toNat : Int) = _
  have h1 : (BitVec.ofInt 64 (x : Int)).toNat = x := by
    rw [BitVec.ofInt_natCast, BitVec.toNat_ofNat]; exact Nat.mod_eq_of_lt (by omega)
  have h2 : (BitVec.ofInt 64 (y : Int)).toNat = y := by
    rw [BitVec.ofInt_natCast, BitVec.toNat_ofNat]; exact Nat.mod_eq_of_lt (by omega)
  have h3 : x ||| y < 2 ^ 64 := Nat.or_lt_two_pow (by omega) (by omega)
  rw [BitVec.toNat_or, h1, h2, IntKind.wrap_u64]
  omega
theorem or_split (x y : Int) (i : Nat) (hi : i ≤ 64) (hx : 0 ≤ x) (hx' : x * 2 ^ i < 18446744073709551616) (hy : 0 ≤ y) (hy' : y < 2 ^ i) : bits .or .u64 (x * 2 ^ i) y = x * 2 ^ i + y := by
  obtain ⟨m, rfl⟩ := Int.eq_ofNat_of_zero_le hx
  obtain ⟨l, rfl⟩ := Int.eq_ofNat_of_zero_le hy
  have e : ((m : Int) * 2 ^ i) = ((m * 2 ^ i : Nat) : Int) := by rw [Int.natCast_mul, Int.natCast_pow]; rfl
  have hl : l < 2 ^ i := by
    have : ((l : Nat) : Int) < ((2 ^ i : Nat) : Int) := by rw [Int.natCast_pow]; exact hy'
    omega
  have h64 : 2 ^ i ≤ 2 ^ 64 := Nat.pow_le_pow_right (by decide) hi
  rw [e] at hx' ⊢
  rw [or_nat _ _ (by omega) (by omega), ← Nat.shiftLeft_eq, ← Nat.shiftLeft_add_eq_or_of_lt hl]
  omega
theorem fl_lo (h l : Int) (n : Nat) (hn : n < 64) (hl : 0 ≤ l ∧ l < 18446744073709551616) :
    bits .or .u64 (h * 2 ^ (64 - n) % 18446744073709551616) (l / 2 ^ n) = (h * 18446744073709551616 + l) / 2 ^ n % 18446744073709551616 := by
  obtain ⟨p, ep⟩ : ∃ p : Int, (2 : Int) ^ n = p := ⟨_, rfl⟩
  obtain ⟨c, ec⟩ : ∃ c : Int, (2 : Int) ^ (64 - n) = c := ⟨_, rfl⟩
  have hp : 0 < p := ep ▸ Int.pow_pos (by decide)
  have hc : 0 < c := ec ▸ Int.pow_pos (by decide)
  have hpc : c * p = 18446744073709551616 := by rw [← ep, ← ec, ← Int.pow_add, show 64 - n + n = 64 by omega]; rfl
  have e0 : h * 2 ^ (64 - n) % 18446744073709551616 = (h % p) * 2 ^ (64 - n) := by
    rw [ec, ← hpc, Int.mul_comm c p, Int.mul_comm h c, Int.mul_comm p c, Int.mul_emod_mul_of_pos _ _ hc, Int.mul_comm]
  have r0 := Int.emod_nonneg h (show p ≠ 0 by omega)
  have r1 := Int.emod_lt_of_pos h hp
  have q0 : 0 ≤ l / p := Int.ediv_nonneg hl.1 (by omega)
  have q1 : l / p < c := Int.ediv_lt_of_lt_mul hp (by rw [hpc]; exact hl.2)
  have m1 : (h % p) * c < 18446744073709551616 := by
    have : (h % p + 1) * c ≤ p * c := Int.mul_le_mul_of_nonneg_right (by omega) (by omega)
    rw [Int.mul_comm p c, hpc, Int.add_mul] at this
    omega
  rw [e0, or_split _ _ _ (by omega) r0 (by rw [ec]; exact m1) (by rw [ep]; exact q0) (by rw [ec, ep]; exact q1), ec, ep]
  have e1 : (h * 18446744073709551616 + l) / p = h * c + l / p := by
    rw [← hpc, ← Int.mul_assoc, Int.add_comm, Int.add_mul_ediv_right _ _ (by omega), Int.add_comm]
  have e2 : h * c = (h / p) * 18446744073709551616 + (h % p) * c := by
    have := Int.mul_ediv_add_emod h p
    conv => lhs; rw [← this]
    rw [← hpc, Int.add_mul, Int.mul_comm p (h / p), Int.mul_assoc, Int.mul_comm p c]
  rw [e1, e2]
  have m2 : 0 ≤ (h % p) * c := Int.mul_nonneg r0 (by omega)
  have m3 : (h % p) * c + l / p < 18446744073709551616 := by
    have : (h % p + 1) * c ≤ p * c := Int.mul_le_mul_of_nonneg_right (by omega) (by omega)
    rw [Int.mul_comm p c, hpc, Int.add_mul] at this
    omega
  omega
/-- How many of the lowest bits are 0. -/
theorem ctz_lt (x k : Nat) (hx : 0 < x) (h : x < 18446744073709551616) : Lib.ctz 64 x < k ↔ x % 2 ^ k ≠ 0 := by
  obtain ⟨m, e, h2⟩ := Lib.ctzFrom_spec 64 x hx (by omega)
  have ec : Lib.ctz 64 x = Lib.ctzFrom 64 x := by unfold Lib.ctz; rw [if_neg (by omega)]
  rw [ec]
  obtain ⟨z, ez⟩ : ∃ z, Lib.ctzFrom 64 x = z := ⟨_, rfl⟩
  rw [ez] at e ⊢
  constructor
  · intro hk h0
    obtain ⟨q, hq⟩ := Nat.dvd_of_mod_eq_zero h0
    have : 2 ^ k = 2 ^ z * (2 * 2 ^ (k - z - 1)) := by
      rw [← Nat.pow_succ', ← Nat.pow_add]; congr 1; omega
    rw [this, Nat.mul_assoc] at hq
    rw [hq] at e
    have := Nat.eq_of_mul_eq_mul_left (Nat.two_pow_pos z) e
    rw [Nat.mul_assoc] at this
    omega
  · intro h0
    apply Classical.byContradiction
    intro hk
    apply h0
    rw [e, show z = k + (z - k) by omega, Nat.pow_add, Nat.mul_assoc]
    exact Nat.mul_mod_right ..
end Go.Proofs.Ytknadgffflhlgaa.Wd
