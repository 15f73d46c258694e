/- Long division of two words by one, digit by digit: the plain arithmetic of it. Nothing of the program is named here. -/
import Derived.RowKit
import Derived.Laws.Bits64b
import Derived.Laws.BitsLemmas
import Derived.Lib.BitFns
import Derived.WalkKit
import Derived.Lib.ItoaNum
namespace Go.Proofs.Ytknadgffflhlgaa.Kn
open Go.RowKit
set_option linter.unusedVariables false
variable {Y Y1 Y0 u v : Int}
/-- The dividend's next digit. -/
def dig (u v Y : Int) : Int := (u * 4294967296 + v) / Y

theorem dig_lo (hY : 0 < Y) : dig u v Y * Y ≤ u * 4294967296 + v := Int.ediv_mul_le _ (by omega)
theorem dig_hi (hY : 0 < Y) : u * 4294967296 + v < (dig u v Y + 1) * Y := Int.lt_ediv_add_one_mul_self _ hY
theorem dig_nonneg (hY : 0 < Y) (hu : 0 ≤ u) (hv : 0 ≤ v) : 0 ≤ dig u v Y := Int.ediv_nonneg (by omega) (by omega)
theorem dig_lt (hY : 0 < Y) (hu : u < Y) (hv : v < 4294967296) : dig u v Y < 4294967296 := by
  unfold dig
  apply Int.ediv_lt_of_lt_mul hY
  omega
theorem dig_start (hY : 0 < Y) (h1 : 0 < Y1) (h0 : 0 ≤ Y0) (e : Y = Y1 * 4294967296 + Y0) (hu : 0 ≤ u) (hv : 0 ≤ v) (hv' : v < 4294967296) : dig u v Y ≤ u / Y1 := by
  rw [Int.le_ediv_iff_mul_le h1]
  have h := dig_lo (u := u) (v := v) hY
  have hd := dig_nonneg (Y := Y) hY hu hv
  have h0' : 0 ≤ dig u v Y * Y0 := Int.mul_nonneg hd h0
  rw [e, Int.mul_add, ← Int.mul_assoc] at h
  rw [← e] at h
  omega
theorem dig_ub (h1 : 2147483648 ≤ Y1) (h0 : Y0 < 4294967296) (e : Y = Y1 * 4294967296 + Y0) (hu : u < Y) : u / Y1 ≤ 4294967297 := by
  apply Int.le_of_lt_add_one
  apply Int.ediv_lt_of_lt_mul (by omega)
  omega
theorem dig_more (q r : Int) (hY : 0 < Y) (hu : u < Y) (hv : v < 4294967296) (e : Y = Y1 * 4294967296 + Y0) (hq : q * Y1 + r = u) (h : 4294967296 ≤ q ∨ 4294967296 * r + v < q * Y0) : dig u v Y < q := by
  rcases h with h | h
  · have := dig_lt hY hu hv
    omega
  · unfold dig
    apply Int.ediv_lt_of_lt_mul hY
    rw [e, Int.mul_add, ← Int.mul_assoc]
    omega
theorem dig_stop (q r : Int) (hY : 0 < Y) (e : Y = Y1 * 4294967296 + Y0) (hq : q * Y1 + r = u) (h : q * Y0 ≤ 4294967296 * r + v) (hd : dig u v Y ≤ q) : q = dig u v Y := by
  apply Int.le_antisymm _ hd
  unfold dig
  rw [Int.le_ediv_iff_mul_le hY, e, Int.mul_add, ← Int.mul_assoc]
  omega
theorem dig_far (q r : Int) (hY : 0 < Y) (h0 : 0 ≤ Y0) (h0' : Y0 < 4294967296) (hv : 0 ≤ v) (e : Y = Y1 * 4294967296 + Y0) (hq : q * Y1 + r = u) (hr : 4294967296 ≤ r) (hq0 : 0 ≤ q) (hq1 : q ≤ 4294967296) (hd : dig u v Y ≤ q) : q = dig u v Y := by
  apply dig_stop q r hY e hq _ hd
  have : q * Y0 ≤ 4294967296 * Y0 := Int.mul_le_mul_of_nonneg_right hq1 h0
  omega
theorem wrap_sub_wrap (a b : Int) : IntKind.u64.wrap (IntKind.u64.wrap a - IntKind.u64.wrap b) = IntKind.u64.wrap (a - b) := by
  simp only [IntKind.wrap_u64]; omega
theorem wrap_add_wrap (a b : Int) : IntKind.u64.wrap (IntKind.u64.wrap a + b) = IntKind.u64.wrap (a + b) := by
  simp only [IntKind.wrap_u64]; omega
theorem wrap_id (a : Int) (h : 0 ≤ a) (h' : a < 18446744073709551616) : IntKind.u64.wrap a = a := by
  simp only [IntKind.wrap_u64]; omega
theorem dig_rem (hY : 0 < Y) (hY' : Y ≤ 18446744073709551616) :
    IntKind.u64.wrap (IntKind.u64.wrap (IntKind.u64.wrap (u * 4294967296) + v) - IntKind.u64.wrap (dig u v Y * Y)) = (u * 4294967296 + v) % Y := by
  rw [wrap_add_wrap, wrap_sub_wrap]
  have h := Int.emod_add_mul_ediv (u * 4294967296 + v) Y
  have e : u * 4294967296 + v - dig u v Y * Y = (u * 4294967296 + v) % Y := by
    unfold dig
    rw [Int.mul_comm ((u * 4294967296 + v) / Y) Y]
    omega
  rw [e]
  have h1 := Int.emod_nonneg (u * 4294967296 + v) (show Y ≠ 0 by omega)
  have h2 := Int.emod_lt_of_pos (u * 4294967296 + v) hY
  exact wrap_id _ h1 (by omega)
theorem start_rest (h1 : 0 < Y1) (h1' : Y1 < 4294967296) (hu : 0 ≤ u) (hu' : u < 18446744073709551616) :
    IntKind.u64.wrap (u - IntKind.u64.wrap (u / Y1 * Y1)) = u % Y1 := by
  have h := Int.emod_add_mul_ediv u Y1
  have a := Int.emod_nonneg u (show Y1 ≠ 0 by omega)
  have b := Int.emod_lt_of_pos u h1
  rw [Int.mul_comm] at h
  simp only [IntKind.wrap_u64]
  omega
theorem start_eq : u / Y1 * Y1 + u % Y1 = u := by
  have h := Int.emod_add_mul_ediv u Y1
  rw [Int.mul_comm] at h
  omega
theorem dig_eq (u v Y : Int) : u * 4294967296 + v = dig u v Y * Y + (u * 4294967296 + v) % Y := by
  have h := Int.emod_add_mul_ediv (u * 4294967296 + v) Y
  unfold dig
  rw [Int.mul_comm Y] at h
  omega
theorem maskI (a : Int) (h : 0 ≤ a) (h' : a < 18446744073709551616) : bits .and .u64 a 4294967295 = a % 4294967296 := by
  have hw : ∀ n : Int, 0 ≤ n → n < 2 ^ 64 → IntKind.u64.wrap n = n := fun n h0 h1 => by rw [IntKind.wrap_u64]; omega
  exact bits_mask .u64 64 (by decide) hw 32 (by decide) a h (by omega)
theorem shift_of (y : Int) (h0 : 0 < y) (h1 : y < 18446744073709551616) : ∃ s : Nat, s < 64 ∧ Hid ((s : Int) = 64 - (Lib.bitLen y.toNat : Int)) ∧ 9223372036854775808 ≤ y * 2 ^ s ∧ y * 2 ^ s < 18446744073709551616 := by
  obtain ⟨n, rfl⟩ := Int.eq_ofNat_of_zero_le (show 0 ≤ y by omega)
  have hb := Lib.bitLenAux_bounds 64 n (by omega) (by omega)
  have hle := Lib.bitLen_le n 64 (by omega) (by omega)
  change 1 ≤ Lib.bitLen n ∧ 2 ^ (Lib.bitLen n - 1) ≤ n ∧ n < 2 ^ Lib.bitLen n at hb
  refine ⟨64 - Lib.bitLen n, by omega, by show _ = _; simp only [Int.toNat_natCast]; omega, ?_, ?_⟩
  · have e : 2 ^ (Lib.bitLen n - 1) * 2 ^ (64 - Lib.bitLen n) = 9223372036854775808 := by
      rw [← Nat.pow_add, show Lib.bitLen n - 1 + (64 - Lib.bitLen n) = 63 by omega]
    have := Nat.mul_le_mul_right (2 ^ (64 - Lib.bitLen n)) hb.2.1
    rw [e] at this
    have h2 := Int.ofNat_le.2 this
    rw [Int.natCast_mul, Int.natCast_pow] at h2
    exact h2
  · have e : 2 ^ Lib.bitLen n * 2 ^ (64 - Lib.bitLen n) = 18446744073709551616 := by
      rw [← Nat.pow_add, show Lib.bitLen n + (64 - Lib.bitLen n) = 64 by omega]
    have := Nat.mul_lt_mul_of_pos_right hb.2.2 (Nat.two_pow_pos (64 - Lib.bitLen n))
    rw [e] at this
    have h2 := Int.ofNat_lt.2 this
    rw [Int.natCast_mul, Int.natCast_pow] at h2
    exact h2
theorem shifted (hi lo y : Int) (s : Nat) (hh : hi < y) (h0 : 0 < hi) (hy : 0 < y) (hs : s < 64) (hY : 9223372036854775808 ≤ y * 2 ^ s ∧ y * 2 ^ s < 18446744073709551616) (hl : 0 ≤ lo ∧ lo < 18446744073709551616) :
    bits .or .u64 (IntKind.u64.wrap (hi * 2 ^ s)) (lo / 2 ^ (64 - s)) = hi * 2 ^ s + lo / 2 ^ (64 - s) ∧ IntKind.u64.wrap (lo * 2 ^ s) = lo * 2 ^ s % 18446744073709551616 ∧
    0 ≤ hi * 2 ^ s + lo / 2 ^ (64 - s) ∧ hi * 2 ^ s + lo / 2 ^ (64 - s) < y * 2 ^ s ∧
    (hi * 18446744073709551616 + lo) * 2 ^ s = (hi * 2 ^ s + lo / 2 ^ (64 - s)) * 18446744073709551616 + lo * 2 ^ s % 18446744073709551616 := by
  have hP : (0 : Int) < 2 ^ s := Int.pow_pos (by decide)
  have hT : (0 : Int) < 2 ^ (64 - s) := Int.pow_pos (by decide)
  have hPT : (2 : Int) ^ (64 - s) * 2 ^ s = 18446744073709551616 := by
    rw [← Int.pow_add, show 64 - s + s = 64 by omega]; rfl
  have hPT' : (2 : Int) ^ s * 2 ^ (64 - s) = 18446744073709551616 := by rw [Int.mul_comm]; exact hPT
  have q0 : 0 ≤ lo / 2 ^ (64 - s) := Int.ediv_nonneg hl.1 (by omega)
  have q1 : lo / 2 ^ (64 - s) < 2 ^ s := Int.ediv_lt_of_lt_mul hT (by rw [hPT']; exact hl.2)
  have hm : (hi + 1) * 2 ^ s ≤ y * 2 ^ s := Int.mul_le_mul_of_nonneg_right (by omega) (by omega)
  rw [Int.add_mul] at hm
  have hp : 0 ≤ hi * 2 ^ s := Int.mul_nonneg (by omega) (by omega)
  have hw : ∀ n : Int, 0 ≤ n → n < 2 ^ 64 → IntKind.u64.wrap n = n := fun n h0 h1 => by rw [IntKind.wrap_u64]; omega
  refine ⟨?_, by rw [IntKind.wrap_u64], by omega, by omega, ?_⟩
  · rw [wrap_id _ hp (by omega)]
    have hP64 : (2 : Int) ^ s ≤ 2 ^ 64 := by
      rw [show (2 : Int) ^ 64 = 18446744073709551616 from rfl, ← hPT']
      have : (2 : Int) ^ s * 1 ≤ 2 ^ s * 2 ^ (64 - s) := Int.mul_le_mul_of_nonneg_left (by omega) (by omega)
      omega
    exact bits_join .u64 64 (by decide) hw s _ _ hp (Int.mul_emod_left _ _) (by omega) q0 q1 (by omega)
  · have hd := Int.emod_add_mul_ediv lo (2 ^ (64 - s))
    have r0 := Int.emod_nonneg lo (show (2 : Int) ^ (64 - s) ≠ 0 by omega)
    have r1 := Int.emod_lt_of_pos lo hT
    have e : lo * 2 ^ s = lo / 2 ^ (64 - s) * 18446744073709551616 + lo % 2 ^ (64 - s) * 2 ^ s := by
      rw [← hPT]
      have : lo * 2 ^ s = (lo % 2 ^ (64 - s) + 2 ^ (64 - s) * (lo / 2 ^ (64 - s))) * 2 ^ s := by rw [hd]
      rw [this, Int.add_mul, Int.mul_comm (2 ^ (64 - s)) (lo / 2 ^ (64 - s)), Int.mul_assoc]
      omega
    have e2 : lo % 2 ^ (64 - s) * 2 ^ s < 2 ^ (64 - s) * 2 ^ s := Int.mul_lt_mul_of_pos_right r1 hP
    have e3 : 0 ≤ lo % 2 ^ (64 - s) * 2 ^ s := Int.mul_nonneg r0 (by omega)
    rw [hPT] at e2
    rw [Int.add_mul, Int.add_mul, Int.mul_assoc hi, Int.mul_comm 18446744073709551616 (2 ^ s), ← Int.mul_assoc]
    omega
theorem whole (N y P Y U L Q1 Q0 R1 R0 : Int) (hP : 0 < P) (hY : Y = y * P) (hy : 0 < y) (h0 : 0 ≤ R0) (h1 : R0 < Y)
    (hN : N * P = U * 18446744073709551616 + L) (e1 : U * 4294967296 + L / 4294967296 = Q1 * Y + R1) (e2 : R1 * 4294967296 + L % 4294967296 = Q0 * Y + R0) :
    N / y = Q1 * 4294967296 + Q0 ∧ R0 / P = N % y := by
  have hA : N * P = (Q1 * 4294967296 + Q0) * Y + R0 := by
    rw [Int.add_mul, Int.mul_assoc, Int.mul_comm 4294967296 Y, ← Int.mul_assoc]
    omega
  have hR : R0 = (N - (Q1 * 4294967296 + Q0) * y) * P := by
    rw [Int.sub_mul, hA, hY, Int.mul_assoc]; omega
  have hd : R0 / P = N - (Q1 * 4294967296 + Q0) * y := by
    rw [hR]; exact Int.mul_ediv_cancel _ (by omega)
  have p0 : 0 ≤ N - (Q1 * 4294967296 + Q0) * y := by rw [← hd]; exact Int.ediv_nonneg h0 (by omega)
  have p1 : N - (Q1 * 4294967296 + Q0) * y < y := by
    rw [← hd]; exact Int.ediv_lt_of_lt_mul hP (by rw [← hY]; exact h1)
  have := (Int.ediv_emod_unique (a := N) (b := y) (r := N - (Q1 * 4294967296 + Q0) * y) (q := Q1 * 4294967296 + Q0) hy).2 ⟨by rw [Int.mul_comm]; omega, p0, p1⟩
  exact ⟨this.1, by rw [hd, this.2]⟩
end Go.Proofs.Ytknadgffflhlgaa.Kn
