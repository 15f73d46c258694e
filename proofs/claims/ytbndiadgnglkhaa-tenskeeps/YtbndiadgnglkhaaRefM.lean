/- Bits of numbers of four words: plain arithmetic. -/
import Derived.Test.YtbndiadgnglkhaaRefC
namespace Go.Proofs.Ytbndiadgnglkhaa.Rf
open Go.RowKit Fx
set_option linter.unusedVariables false
set_option linter.unusedSimpArgs false
theorem two_pos (n : Nat) : (0 : Int) < 2 ^ n := Int.pow_pos (by decide)
theorem lim_bit (a H : Int) (r : Nat) (hr : r < 64) : (a + 18446744073709551616 * H) / 2 ^ r % 2 = a / 2 ^ r % 2 := by
  have e : (18446744073709551616 : Int) = 2 ^ r * (2 * 2 ^ (63 - r)) := by
    rw [show (18446744073709551616 : Int) = 2 ^ 64 from rfl, show 64 = r + (1 + (63 - r)) by omega, Int.pow_add, Int.pow_add]
    rfl
  rw [e, Int.mul_assoc, Int.add_mul_ediv_left _ _ (Int.ne_of_gt (two_pos r)), Int.mul_assoc]
  omega
theorem div_two (x : Int) (e r : Nat) : x / 2 ^ (e + r) = x / 2 ^ e / 2 ^ r := by
  have h := two_pos e
  rw [Int.pow_add, Int.ediv_ediv, if_neg (fun c => by omega), Int.sub_zero]
/-- Which word a bit lies in. -/
theorem limb_bit (a0 a1 a2 a3 : Int) (h0 : U a0) (h1 : U a1) (h2 : U a2) (h3 : U a3) (r : Nat) (hr : r < 64) :
    PS 4 a0 a1 a2 a3 / 2 ^ (64 * 0 + r) % 2 = a0 / 2 ^ r % 2 ∧ PS 4 a0 a1 a2 a3 / 2 ^ (64 * 1 + r) % 2 = a1 / 2 ^ r % 2 ∧
    PS 4 a0 a1 a2 a3 / 2 ^ (64 * 2 + r) % 2 = a2 / 2 ^ r % 2 ∧ PS 4 a0 a1 a2 a3 / 2 ^ (64 * 3 + r) % 2 = a3 / 2 ^ r % 2 := by
  unfold U at *
  rw [PS4]
  refine ⟨?_, ?_, ?_, ?_⟩
  · rw [div_two, ← lim_bit a0 (a1 + a2 * 18446744073709551616 + a3 * 340282366920938463463374607431768211456) r hr]
    congr 2
    show _ / 1 = _
    omega
  · rw [div_two, ← lim_bit a1 (a2 + a3 * 18446744073709551616) r hr]
    congr 2
    show _ / 18446744073709551616 = _
    omega
  · rw [div_two, ← lim_bit a2 a3 r hr]
    congr 2
    show _ / 340282366920938463463374607431768211456 = _
    omega
  · rw [div_two, ← lim_bit a3 0 r hr]
    congr 2
    show _ / 6277101735386680763835789423207666416102355444464034512896 = _
    omega
theorem or_bit (a t : Nat) (h : a / 2 ^ t % 2 = 0) : a ||| 2 ^ t = a + 2 ^ t := by
  have hp := Nat.two_pow_pos t
  have hl := Nat.mod_lt a hp
  have hd := Nat.div_add_mod a (2 ^ t)
  have hq : a / 2 ^ t = 2 * (a / 2 ^ t / 2) := by omega
  have hP : 2 ^ (t + 1) = 2 ^ t * 2 := Nat.pow_succ 2 t
  have ea : a = 2 ^ (t + 1) * (a / 2 ^ t / 2) + a % 2 ^ t := by
    rw [hP, Nat.mul_assoc, ← hq, hd]
  have e1 : 2 ^ (t + 1) * (a / 2 ^ t / 2) + a % 2 ^ t = 2 ^ (t + 1) * (a / 2 ^ t / 2) ||| a % 2 ^ t := Nat.two_pow_add_eq_or_of_lt (by omega) _
  have e2 : 2 ^ t * 1 + a % 2 ^ t = 2 ^ t * 1 ||| a % 2 ^ t := Nat.two_pow_add_eq_or_of_lt hl 1
  have e3 : 2 ^ (t + 1) * (a / 2 ^ t / 2) + (2 ^ t * 1 + a % 2 ^ t) = 2 ^ (t + 1) * (a / 2 ^ t / 2) ||| (2 ^ t * 1 + a % 2 ^ t) := Nat.two_pow_add_eq_or_of_lt (by omega) _
  rw [e2, Nat.mul_one] at e3
  have : a ||| 2 ^ t = 2 ^ (t + 1) * (a / 2 ^ t / 2) ||| (2 ^ t ||| a % 2 ^ t) := by
    conv => lhs; rw [ea, e1, Nat.or_assoc, Nat.or_comm (a % 2 ^ t)]
  rw [Nat.mul_one] at e2
  rw [this, ← e3, ← e2]
  omega
theorem or_set (a : Int) (t : Nat) (ha : U a) (ht : t < 64) (h : a / 2 ^ t % 2 = 0) : bits .or .u64 a (2 ^ t) = a + 2 ^ t ∧ U (a + 2 ^ t) := by
  obtain ⟨n, rfl⟩ := Int.eq_ofNat_of_zero_le ha.1
  have hn : n < 18446744073709551616 := by have := ha.2; omega
  have ht2 : 2 ^ t < 18446744073709551616 := by
    rw [show 18446744073709551616 = 2 ^ 64 from rfl]; exact Nat.pow_lt_pow_right (by decide) ht
  have hb : n / 2 ^ t % 2 = 0 := by
    have c : ((n / 2 ^ t % 2 : Nat) : Int) = (n : Int) / 2 ^ t % 2 := by
      rw [Int.natCast_emod, Int.natCast_ediv, Int.natCast_pow]; rfl
    omega
  have hc : ((2 : Int) ^ t) = ((2 ^ t : Nat) : Int) := by rw [Int.natCast_pow]; rfl
  have hl : n ||| 2 ^ t < 2 ^ 64 := Nat.or_lt_two_pow (by omega) (by omega)
  rw [hc, bits_or_u64_nat n (2 ^ t) hn ht2, or_bit n t hb]
  rw [or_bit n t hb] at hl
  refine ⟨by rw [Int.natCast_add], ?_⟩
  have hp := two_pos t
  unfold U
  omega
theorem wrap_pow (t : Nat) (ht : t < 64) : IntKind.u64.wrap (2 ^ t) = 2 ^ t := by
  have hc : ((2 : Int) ^ t) = ((2 ^ t : Nat) : Int) := by rw [Int.natCast_pow]; rfl
  have ht2 : 2 ^ t < 18446744073709551616 := by
    rw [show 18446744073709551616 = 2 ^ 64 from rfl]; exact Nat.pow_lt_pow_right (by decide) ht
  have hp := two_pos t
  rw [IntKind.wrap_u64]
  omega
/-- A number's part from bit k on. -/
def hp (x : Int) (k : Nat) : Int := x / 2 ^ k * 2 ^ k
theorem hp_step (x : Int) (k : Nat) : hp x k = hp x (k + 1) + x / 2 ^ k % 2 * 2 ^ k := by
  unfold hp
  rw [div_two, show (2 : Int) ^ (k + 1) = 2 ^ k * 2 from Int.pow_succ 2 k]
  generalize x / 2 ^ k = y
  show y * 2 ^ k = y / 2 ^ 1 * (2 ^ k * 2) + y % 2 * 2 ^ k
  rw [show (2 : Int) ^ 1 = 2 from rfl, Int.mul_comm (2 ^ k) 2, ← Int.mul_assoc, ← Int.add_mul]
  congr 1
  omega
theorem hp_bit (x : Int) (k : Nat) : hp x (k + 1) / 2 ^ k % 2 = 0 := by
  unfold hp
  rw [show (2 : Int) ^ (k + 1) = 2 * 2 ^ k by rw [Int.pow_succ, Int.mul_comm], ← Int.mul_assoc, Int.mul_ediv_cancel _ (Int.ne_of_gt (two_pos k))]
  omega
theorem bit_n (a0 a1 a2 a3 : Int) (h0 : U a0) (h1 : U a1) (h2 : U a2) (h3 : U a3) (i : Nat) (hi : i < 256) (ii bt : Int) (ei : ii = (i : Int)) (eb : bt = PS 4 a0 a1 a2 a3 / 2 ^ i % 2) (w : World) :
    Calls Try.prog 77 #[.agg #[.int .u64 a0, .int .u64 a1, .int .u64 a2, .int .u64 a3], .int .i64 ii] w fun e w' => e = .returned (.int .u64 bt) ∧ Below w.heap.size w w' := by
  have hr : i % 64 < 64 := by omega
  obtain ⟨l0, l1, l2, l3⟩ := limb_bit a0 a1 a2 a3 h0 h1 h2 h3 (i % 64) hr
  have hq : i / 64 = 0 ∨ i / 64 = 1 ∨ i / 64 = 2 ∨ i / 64 = 3 := by omega
  rcases hq with hq | hq | hq | hq
  · rw [show 64 * 0 + i % 64 = i by omega] at l0
    rw [eb, l0]
    exact bit_at 0 (by omega) a0 a1 a2 a3 ii a0 (i % 64) h0 h1 h2 h3 hr (by omega) rfl w
  · rw [show 64 * 1 + i % 64 = i by omega] at l1
    rw [eb, l1]
    exact bit_at 1 (by omega) a0 a1 a2 a3 ii a1 (i % 64) h0 h1 h2 h3 hr (by omega) rfl w
  · rw [show 64 * 2 + i % 64 = i by omega] at l2
    rw [eb, l2]
    exact bit_at 2 (by omega) a0 a1 a2 a3 ii a2 (i % 64) h0 h1 h2 h3 hr (by omega) rfl w
  · rw [show 64 * 3 + i % 64 = i by omega] at l3
    rw [eb, l3]
    exact bit_at 3 (by omega) a0 a1 a2 a3 ii a3 (i % 64) h0 h1 h2 h3 hr (by omega) rfl w
end Go.Proofs.Ytbndiadgnglkhaa.Rf
