/- What the functions of package wide hand back: quotients by powers of two. What the functions of package wide hand back: a number by a power of two, rounded. -/
import Derived.Test.YtknadgffflhlgaaWideA
namespace Go.Proofs.Ytknadgffflhlgaa.Wd
open Go.RowKit Fx
set_option linter.unusedVariables false
set_option linter.unusedSimpArgs false
theorem shr_rng (h : Int) (k : Nat) (h1 : -9223372036854775808 ≤ h) (h2 : h ≤ 9223372036854775807) : InR (h / 2 ^ k) := by
  have hp : (0 : Int) < 2 ^ k := Int.pow_pos (by decide)
  unfold InR
  constructor
  · rw [Int.le_ediv_iff_mul_le hp]
    have : (-9223372036854775808 : Int) * 2 ^ k ≤ -9223372036854775808 * 1 := Int.mul_le_mul_of_nonpos_left (by decide) (by omega)
    omega
  · have : h / 2 ^ k < 9223372036854775808 := Int.ediv_lt_of_lt_mul hp (by
      have : (9223372036854775808 : Int) * 1 ≤ 9223372036854775808 * 2 ^ k := Int.mul_le_mul_of_nonneg_left (by omega) (by decide)
      omega)
    omega
theorem wcell_lt {w : World} {b o : Nat} {v : Value} (h : w.cell? ⟨b, o, none⟩ = some v) : b < w.heap.size := by
  by_cases c : b < w.heap.size
  · exact c
  · exfalso
    unfold World.cell? at h
    rw [show w.heap[b]? = none from by simp; omega] at h
    simp at h
theorem keep {W w1 : World} {b o : Nat} {v : Value} (hb : Below W.heap.size W w1) (h : W.cell? ⟨b, o, none⟩ = some v) : w1.cell? ⟨b, o, none⟩ = some v := by
  rw [(bcell hb).1 _ _ (wcell_lt h)]
  exact h
theorem keepf {W w1 : World} {b o : Nat} {v : Value} (hb : Below W.heap.size W w1) (h : W.cell? ⟨b, o, none⟩ = some v) (hf : W.frozen? ⟨b, o, none⟩ = false) : w1.frozen? ⟨b, o, none⟩ = false := by
  rw [(bcell hb).2 _ _ (wcell_lt h)]
  exact hf
theorem keepl {W w1 : World} {b : Nat} (hb : Below W.heap.size W w1) (h : b < W.heap.size) : b < w1.heap.size := Nat.lt_of_lt_of_le h hb.size
/-- How many of the lowest bits of both words are 0. -/
theorem ctz_hi (h l : Int) (k : Nat) (hk : k ≤ 127) (h1 : -9223372036854775808 ≤ h) (h2 : h ≤ 9223372036854775807) (hl : l = 0) (x : Nat) (hx : (x : Int) = h % 18446744073709551616) :
    (64 + (Lib.ctz 64 x : Int) < (k : Int)) ↔ (h * 18446744073709551616 + l) % 2 ^ k ≠ 0 := by
  subst hl
  by_cases c : k ≤ 64
  · have : (h * 18446744073709551616 + 0) % 2 ^ k = 0 := by
      have e : (18446744073709551616 : Int) = 2 ^ (64 - k) * 2 ^ k := by rw [← Int.pow_add, show 64 - k + k = 64 by omega]; rfl
      rw [Int.add_zero, e, ← Int.mul_assoc]
      exact Int.mul_emod_left ..
    omega
  · have e : (h * 18446744073709551616 + 0) % 2 ^ k = 18446744073709551616 * (h % 2 ^ (k - 64)) := by
      rw [Int.add_zero, Int.mul_comm, show (2 : Int) ^ k = 18446744073709551616 * 2 ^ (k - 64) by
        rw [show (18446744073709551616 : Int) = 2 ^ 64 by rfl, ← Int.pow_add, show 64 + (k - 64) = k by omega]]
      exact Int.mul_emod_mul_of_pos _ _ (by decide)
    rw [e]
    have e2 : h % 2 ^ (k - 64) = ((x % 2 ^ (k - 64) : Nat) : Int) := by
      rw [Int.natCast_emod, hx, Int.natCast_pow]
      exact (Int.emod_emod_of_dvd h (by
        refine ⟨2 ^ (64 - (k - 64)), ?_⟩
        show (18446744073709551616 : Int) = 2 ^ (k - 64) * 2 ^ (64 - (k - 64))
        rw [← Int.pow_add, show k - 64 + (64 - (k - 64)) = 64 by omega]; rfl)).symm
    rw [e2]
    by_cases hx0 : x = 0
    · subst hx0
      have : Lib.ctz 64 0 = 64 := rfl
      rw [this]
      simp
      omega
    · have := ctz_lt x (k - 64) (by omega) (by omega)
      omega
theorem ctz_lo (h l : Int) (k : Nat) (x : Nat) (hx0 : 0 < x) (hx : (x : Int) = l) (hl : l ≤ 18446744073709551615) :
    ((Lib.ctz 64 x : Int) < (k : Int)) ↔ (h * 18446744073709551616 + l) % 2 ^ k ≠ 0 := by
  have h0 := ctz_lt x k hx0 (by omega)
  by_cases c : k ≤ 64
  · have e : (h * 18446744073709551616 + l) % 2 ^ k = ((x % 2 ^ k : Nat) : Int) := by
      have e : (18446744073709551616 : Int) = 2 ^ (64 - k) * 2 ^ k := by rw [← Int.pow_add, show 64 - k + k = 64 by omega]; rfl
      rw [e, ← Int.mul_assoc, Int.add_comm, Int.add_mul_emod_self_right, ← hx, Int.natCast_emod, Int.natCast_pow]
      rfl
    rw [e]
    omega
  · have h2 : Lib.ctz 64 x < 64 := (Lib.lowest_bit 64 x (by omega) (by omega)).2
    constructor
    · intro _ h3
      have e : ((h * 18446744073709551616 + l) % 2 ^ k) % 18446744073709551616 = l := by
        rw [Int.emod_emod_of_dvd _ (by
          refine ⟨2 ^ (k - 64), ?_⟩
          rw [show (18446744073709551616 : Int) = 2 ^ 64 by rfl, ← Int.pow_add, show 64 + (k - 64) = k by omega])]
        omega
      rw [h3] at e
      omega
    · intro _
      omega
end Go.Proofs.Ytknadgffflhlgaa.Wd
namespace Go.Proofs.Ytknadgffflhlgaa.Wd
open Go.RowKit Fx
set_option linter.unusedVariables false
set_option linter.unusedSimpArgs false
theorem fld_hi (p q : Int) (W : World) : Sem.run Try.prog (Instr.field 30 (.agg #[.int .i64 p, .int .u64 q]) 0) W = .ok (.int .i64 p) W := by
  kernel_rfl
theorem fld_lo (p q : Int) (W : World) : Sem.run Try.prog (Instr.field 30 (.agg #[.int .i64 p, .int .u64 q]) 1) W = .ok (.int .u64 q) W := by
  kernel_rfl
attribute [local go_sem] fld_hi fld_lo
theorem wd_one : wd 1 = .agg #[.int .i64 0, .int .u64 1] := (wd_eq (by decide) (by decide)).symm
theorem pow_le (a : Int) (n : Nat) (ha : InW a) : InW (a / 2 ^ n) := by
  have hp : (0 : Int) < 2 ^ n := Int.pow_pos (by decide)
  unfold InW at *
  constructor
  · rw [Int.le_ediv_iff_mul_le hp]
    have : (-170141183460469231731687303715884105728 : Int) * 2 ^ n ≤ -170141183460469231731687303715884105728 * 1 := Int.mul_le_mul_of_nonpos_left (by decide) (by omega)
    omega
  · exact Int.ediv_lt_of_lt_mul hp (by
      have : (170141183460469231731687303715884105728 : Int) * 1 ≤ 170141183460469231731687303715884105728 * 2 ^ n := Int.mul_le_mul_of_nonneg_left (by omega) (by decide)
      omega)
theorem half_in (a : Int) (k : Nat) (ha : InW a) : InW (a / 2 ^ (k + 1) + 1) := by
  have h := pow_le a k ha
  rw [Int.pow_succ, ← dd a (Int.pow_pos (by decide))]
  unfold InW at *
  omega
end Go.Proofs.Ytknadgffflhlgaa.Wd
