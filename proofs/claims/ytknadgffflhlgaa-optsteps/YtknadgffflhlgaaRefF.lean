/- Bits of numbers of four words: plain arithmetic. A signed number that lies in memory, bit by bit; the reference's shift. The reference's division, rounded: as whole numbers. -/
import Derived.Test.YtknadgffflhlgaaRefA
namespace Go.Proofs.Ytknadgffflhlgaa.Rf
open Go.RowKit Fx
set_option linter.unusedVariables false
set_option linter.unusedSimpArgs false
theorem two_pos (n : Nat) : (0 : Int) < 2 ^ n := Int.pow_pos (by decide)
theorem lim_bit (a H : Int) (r : Nat) (hr : r < 64) : (a + 18446744073709551616 * H) / 2 ^ r % 2 = a / 2 ^ r % 2 := by
  have e : (18446744073709551616 : Int) = 2 ^ r * (2 * 2 ^ (63 - r)) := by
    rw [show (18446744073709551616 : Int) = 2 ^ 64 from rfl, show 64 = r + (1 + (63 - r)) by omega, Int.pow_add, Int.pow_add]
    rfl
  rw [e, Int.mul_assoc, Int.add_mul_ediv_left _ _ (Int.ne_of_gt (two_pos r)), Int.mul_assoc]
  omega
theorem div_two (x : Int) (e r : Nat) : x / 2 ^ (e + r) = x / 2 ^ e / 2 ^ r := by
  have h := two_pos e
  rw [Int.pow_add, Int.ediv_ediv, if_neg (fun c => by omega), Int.sub_zero]
/-- Which word a bit lies in. -/
theorem limb_bit (a0 a1 a2 a3 : Int) (h0 : U a0) (h1 : U a1) (h2 : U a2) (h3 : U a3) (r : Nat) (hr : r < 64) :
    PS 4 a0 a1 a2 a3 / 2 ^ (64 * 0 + r) % 2 = a0 / 2 ^ r % 2 ∧ PS 4 a0 a1 a2 a3 / 2 ^ (64 * 1 + r) % 2 = a1 / 2 ^ r % 2 ∧
    PS 4 a0 a1 a2 a3 / 2 ^ (64 * 2 + r) % 2 = a2 / 2 ^ r % 2 ∧ PS 4 a0 a1 a2 a3 / 2 ^ (64 * 3 + r) % 2 = a3 / 2 ^ r % 2 := by
  unfold U at *
  rw [PS4]
  refine ⟨?_, ?_, ?_, ?_⟩
  · rw [div_two, ← lim_bit a0 (a1 + a2 * 18446744073709551616 + a3 * 340282366920938463463374607431768211456) r hr]
    congr 2
    show _ / 1 = _
    omega
  · rw [div_two, ← lim_bit a1 (a2 + a3 * 18446744073709551616) r hr]
    congr 2
    show _ / 18446744073709551616 = _
    omega
  · rw [div_two, ← lim_bit a2 a3 r hr]
    congr 2
    show _ / 340282366920938463463374607431768211456 = _
    omega
  · rw [div_two, ← lim_bit a3 0 r hr]
    congr 2
    show _ / 6277101735386680763835789423207666416102355444464034512896 = _
    omega
theorem or_bit (a t : Nat) (h : a / 2 ^ t % 2 = 0) : a ||| 2 ^ t = a + 2 ^ t := by
  have hp := Nat.two_pow_pos t
  have hl := Nat.mod_lt a hp
  have hd := Nat.div_add_mod a (2 ^ t)
  have hq : a / 2 ^ t = 2 * (a / 2 ^ t / 2) := by omega
  have hP : 2 ^ (t + 1) = 2 ^ t * 2 := Nat.pow_succ 2 t
  have ea : a = 2 ^ (t + 1) * (a / 2 ^ t / 2) + a % 2 ^ t := by
    rw [hP, Nat.mul_assoc, ← hq, hd]
  have e1 : 2 ^ (t + 1) * (a / 2 ^ t / 2) + a % 2 ^ t = 2 ^ (t + 1) * (a / 2 ^ t / 2) ||| a % 2 ^ t := Nat.two_pow_add_eq_or_of_lt (by omega) _
  have e2 : 2 ^ t * 1 + a % 2 ^ t = 2 ^ t * 1 ||| a % 2 ^ t := Nat.two_pow_add_eq_or_of_lt hl 1
  have e3 : 2 ^ (t + 1) * (a / 2 ^ t / 2) + (2 ^ t * 1 + a % 2 ^ t) = 2 ^ (t + 1) * (a / 2 ^ t / 2) ||| (2 ^ t * 1 + a % 2 ^ t) := Nat.two_pow_add_eq_or_of_lt (by omega) _
  rw [e2, Nat.mul_one] at e3
  have : a ||| 2 ^ t = 2 ^ (t + 1) * (a / 2 ^ t / 2) ||| (2 ^ t ||| a % 2 ^ t) := by
    conv => lhs; rw [ea, e1, Nat.or_assoc, Nat.or_comm (a % 2 ^ t)]
  rw [Nat.mul_one] at e2
  rw [this, ← e3, ← e2]
  omega
theorem or_set (a : Int) (t : Nat) (ha : U a) (ht : t < 64) (h : a / 2 ^ t % 2 = 0) : bits .or .u64 a (2 ^ t) = a + 2 ^ t ∧ U (a + 2 ^ t) := by
  obtain ⟨n, rfl⟩ := Int.eq_ofNat_of_zero_le ha.1
  have hn : n < 18446744073709551616 := by have := ha.2; omega
  have ht2 : 2 ^ t < 18446744073709551616 := by
    rw [show 18446744073709551616 = 2 ^ 64 from rfl]; exact Nat.pow_lt_pow_right (by decide) ht
  have hb : n / 2 ^ t % 2 = 0 := by
    have c : ((n / 2 ^ t % 2 : Nat) : Int) = (n : Int) / 2 ^ t % 2 := by
      rw [Int.natCast_emod, Int.natCast_ediv, Int.natCast_pow]; rfl
    omega
  have hc : ((2 : Int) ^ t) = ((2 ^ t : Nat) : Int) := by rw [Int.natCast_pow]; rfl
  have hl : n ||| 2 ^ t < 2 ^ 64 := Nat.or_lt_two_pow (by omega) (by omega)
  rw [hc, bits_or_u64_nat n (2 ^ t) hn ht2, or_bit n t hb]
  rw [or_bit n t hb] at hl
  refine ⟨by rw [Int.natCast_add], ?_⟩
  have hp := two_pos t
  unfold U
  omega
theorem wrap_pow (t : Nat) (ht : t < 64) : IntKind.u64.wrap (2 ^ t) = 2 ^ t := by
  have hc : ((2 : Int) ^ t) = ((2 ^ t : Nat) : Int) := by rw [Int.natCast_pow]; rfl
  have ht2 : 2 ^ t < 18446744073709551616 := by
    rw [show 18446744073709551616 = 2 ^ 64 from rfl]; exact Nat.pow_lt_pow_right (by decide) ht
  have hp := two_pos t
  rw [IntKind.wrap_u64]
  omega
/-- A number's part from bit k on. -/
def hp (x : Int) (k : Nat) : Int := x / 2 ^ k * 2 ^ k
theorem hp_step (x : Int) (k : Nat) : hp x k = hp x (k + 1) + x / 2 ^ k % 2 * 2 ^ k := by
  unfold hp
  rw [div_two, show (2 : Int) ^ (k + 1) = 2 ^ k * 2 from Int.pow_succ 2 k]
  generalize x / 2 ^ k = y
  show y * 2 ^ k = y / 2 ^ 1 * (2 ^ k * 2) + y % 2 * 2 ^ k
  rw [show (2 : Int) ^ 1 = 2 from rfl, Int.mul_comm (2 ^ k) 2, ← Int.mul_assoc, ← Int.add_mul]
  congr 1
  omega
theorem hp_bit (x : Int) (k : Nat) : hp x (k + 1) / 2 ^ k % 2 = 0 := by
  unfold hp
  rw [show (2 : Int) ^ (k + 1) = 2 * 2 ^ k by rw [Int.pow_succ, Int.mul_comm], ← Int.mul_assoc, Int.mul_ediv_cancel _ (Int.ne_of_gt (two_pos k))]
  omega
theorem bit_n (a0 a1 a2 a3 : Int) (h0 : U a0) (h1 : U a1) (h2 : U a2) (h3 : U a3) (i : Nat) (hi : i < 256) (ii bt : Int) (ei : ii = (i : Int)) (eb : bt = PS 4 a0 a1 a2 a3 / 2 ^ i % 2) (w : World) :
    Calls Try.prog 60 #[.agg #[.int .u64 a0, .int .u64 a1, .int .u64 a2, .int .u64 a3], .int .i64 ii] w fun e w' => e = .returned (.int .u64 bt) ∧ Below w.heap.size w w' := by
  have hr : i % 64 < 64 := by omega
  obtain ⟨l0, l1, l2, l3⟩ := limb_bit a0 a1 a2 a3 h0 h1 h2 h3 (i % 64) hr
  have hq : i / 64 = 0 ∨ i / 64 = 1 ∨ i / 64 = 2 ∨ i / 64 = 3 := by omega
  rcases hq with hq | hq | hq | hq
  · rw [show 64 * 0 + i % 64 = i by omega] at l0
    rw [eb, l0]
    exact bit_at 0 (by omega) a0 a1 a2 a3 ii a0 (i % 64) h0 h1 h2 h3 hr (by omega) rfl w
  · rw [show 64 * 1 + i % 64 = i by omega] at l1
    rw [eb, l1]
    exact bit_at 1 (by omega) a0 a1 a2 a3 ii a1 (i % 64) h0 h1 h2 h3 hr (by omega) rfl w
  · rw [show 64 * 2 + i % 64 = i by omega] at l2
    rw [eb, l2]
    exact bit_at 2 (by omega) a0 a1 a2 a3 ii a2 (i % 64) h0 h1 h2 h3 hr (by omega) rfl w
  · rw [show 64 * 3 + i % 64 = i by omega] at l3
    rw [eb, l3]
    exact bit_at 3 (by omega) a0 a1 a2 a3 ii a3 (i % 64) h0 h1 h2 h3 hr (by omega) rfl w
end Go.Proofs.Ytknadgffflhlgaa.Rf
namespace Go.Proofs.Ytknadgffflhlgaa.Rf
open Go.RowKit Fx
set_option linter.unusedVariables false
set_option linter.unusedSimpArgs false
attribute [local go_sem] setCell_drewN alloc_drewN
/-- Block b holds a sign and four words; below B all is as it was. -/
structure Mem (B : Nat) (W2 : World) (b : Nat) (s : Bool) (r0 r1 r2 r3 : Int) (wr : World) : Prop where
  below : Below B W2 wr
  le : B ≤ b
  lt : b < wr.heap.size
  c0 : wr.cell? ⟨b, 0, none⟩ = some (.bool s)
  c1 : wr.cell? ⟨b, 1, none⟩ = some (.int .u64 r0)
  c2 : wr.cell? ⟨b, 2, none⟩ = some (.int .u64 r1)
  c3 : wr.cell? ⟨b, 3, none⟩ = some (.int .u64 r2)
  c4 : wr.cell? ⟨b, 4, none⟩ = some (.int .u64 r3)
  fz : ∀ o, wr.frozen? ⟨b, o, none⟩ = false
  u0 : U r0
  u1 : U r1
  u2 : U r2
  u3 : U r3
theorem Mem.up {B : Nat} {W2 wr w1 : World} {b : Nat} {s : Bool} {r0 r1 r2 r3 : Int} (h : Mem B W2 b s r0 r1 r2 r3 wr) (hb : Below wr.heap.size wr w1) : Mem B W2 b s r0 r1 r2 r3 w1 := by
  obtain ⟨hc, hf⟩ := bcell hb
  have hl : wr.heap.size ≤ w1.heap.size := hb.size
  have h1 := h.le
  have h2 := h.lt
  exact ⟨h.below.trans (hb.mono (by omega)), h.le, by omega, by rw [hc _ _ h2]; exact h.c0, by rw [hc _ _ h2]; exact h.c1, by rw [hc _ _ h2]; exact h.c2, by rw [hc _ _ h2]; exact h.c3, by rw [hc _ _ h2]; exact h.c4, fun o => by rw [hf _ _ h2]; exact h.fz o, h.u0, h.u1, h.u2, h.u3⟩
theorem Mem.set0 {B : Nat} {W2 wr : World} {b : Nat} {s : Bool} {r0 r1 r2 r3 v : Int} (h : Mem B W2 b s r0 r1 r2 r3 wr) (hv : U v) : Mem B W2 b s v r1 r2 r3 (wr.setCell ⟨b, 1, none⟩ (.int .u64 v)) :=
  ⟨h.below.setCell h.le _, h.le, by rw [World.size_setCell]; exact h.lt, by rw [set_off (by omega)]; exact h.c0, set_same h.c1, by rw [set_off (by omega)]; exact h.c2, by rw [set_off (by omega)]; exact h.c3, by rw [set_off (by omega)]; exact h.c4, fun o => by rw [World.frozen?_setCell]; exact h.fz o, hv, h.u1, h.u2, h.u3⟩
theorem Mem.set1 {B : Nat} {W2 wr : World} {b : Nat} {s : Bool} {r0 r1 r2 r3 v : Int} (h : Mem B W2 b s r0 r1 r2 r3 wr) (hv : U v) : Mem B W2 b s r0 v r2 r3 (wr.setCell ⟨b, 2, none⟩ (.int .u64 v)) :=
  ⟨h.below.setCell h.le _, h.le, by rw [World.size_setCell]; exact h.lt, by rw [set_off (by omega)]; exact h.c0, by rw [set_off (by omega)]; exact h.c1, set_same h.c2, by rw [set_off (by omega)]; exact h.c3, by rw [set_off (by omega)]; exact h.c4, fun o => by rw [World.frozen?_setCell]; exact h.fz o, h.u0, hv, h.u2, h.u3⟩
theorem Mem.set2 {B : Nat} {W2 wr : World} {b : Nat} {s : Bool} {r0 r1 r2 r3 v : Int} (h : Mem B W2 b s r0 r1 r2 r3 wr) (hv : U v) : Mem B W2 b s r0 r1 v r3 (wr.setCell ⟨b, 3, none⟩ (.int .u64 v)) :=
  ⟨h.below.setCell h.le _, h.le, by rw [World.size_setCell]; exact h.lt, by rw [set_off (by omega)]; exact h.c0, by rw [set_off (by omega)]; exact h.c1, by rw [set_off (by omega)]; exact h.c2, set_same h.c3, by rw [set_off (by omega)]; exact h.c4, fun o => by rw [World.frozen?_setCell]; exact h.fz o, h.u0, h.u1, hv, h.u3⟩
theorem Mem.set3 {B : Nat} {W2 wr : World} {b : Nat} {s : Bool} {r0 r1 r2 r3 v : Int} (h : Mem B W2 b s r0 r1 r2 r3 wr) (hv : U v) : Mem B W2 b s r0 r1 r2 v (wr.setCell ⟨b, 4, none⟩ (.int .u64 v)) :=
  ⟨h.below.setCell h.le _, h.le, by rw [World.size_setCell]; exact h.lt, by rw [set_off (by omega)]; exact h.c0, by rw [set_off (by omega)]; exact h.c1, by rw [set_off (by omega)]; exact h.c2, by rw [set_off (by omega)]; exact h.c3, set_same h.c4, fun o => by rw [World.frozen?_setCell]; exact h.fz o, h.u0, h.u1, h.u2, hv⟩
theorem set_num0 {r0 r1 r2 r3 z y : Int} (h : Hid (PS 4 r0 r1 r2 r3 = z)) (tt m : Nat) (hm : m = 64 * 0 + tt) (hy : y = z + 2 ^ m) : Hid (PS 4 (r0 + 2 ^ tt) r1 r2 r3 = y) := by
  have h' := h.out
  show PS 4 (r0 + 2 ^ tt) r1 r2 r3 = y
  rw [hy, ← h', PS4, PS4, hm, Int.pow_add]
  generalize (2 : Int) ^ tt = P
  show _ = _ + 1 * P
  omega
theorem set_num1 {r0 r1 r2 r3 z y : Int} (h : Hid (PS 4 r0 r1 r2 r3 = z)) (tt m : Nat) (hm : m = 64 * 1 + tt) (hy : y = z + 2 ^ m) : Hid (PS 4 r0 (r1 + 2 ^ tt) r2 r3 = y) := by
  have h' := h.out
  show PS 4 r0 (r1 + 2 ^ tt) r2 r3 = y
  rw [hy, ← h', PS4, PS4, hm, Int.pow_add]
  generalize (2 : Int) ^ tt = P
  show _ = _ + 18446744073709551616 * P
  omega
theorem set_num2 {r0 r1 r2 r3 z y : Int} (h : Hid (PS 4 r0 r1 r2 r3 = z)) (tt m : Nat) (hm : m = 64 * 2 + tt) (hy : y = z + 2 ^ m) : Hid (PS 4 r0 r1 (r2 + 2 ^ tt) r3 = y) := by
  have h' := h.out
  show PS 4 r0 r1 (r2 + 2 ^ tt) r3 = y
  rw [hy, ← h', PS4, PS4, hm, Int.pow_add]
  generalize (2 : Int) ^ tt = P
  show _ = _ + 340282366920938463463374607431768211456 * P
  omega
theorem set_num3 {r0 r1 r2 r3 z y : Int} (h : Hid (PS 4 r0 r1 r2 r3 = z)) (tt m : Nat) (hm : m = 64 * 3 + tt) (hy : y = z + 2 ^ m) : Hid (PS 4 r0 r1 r2 (r3 + 2 ^ tt) = y) := by
  have h' := h.out
  show PS 4 r0 r1 r2 (r3 + 2 ^ tt) = y
  rw [hy, ← h', PS4, PS4, hm, Int.pow_add]
  generalize (2 : Int) ^ tt = P
  show _ = _ + 6277101735386680763835789423207666416102355444464034512896 * P
  omega
theorem mul_bit (x : Int) (n m : Nat) (h : n ≤ m) : x * 2 ^ n / 2 ^ m % 2 = x / 2 ^ (m - n) % 2 := by
  rw [show m = n + (m - n) by omega, div_two, Int.mul_ediv_cancel _ (Int.ne_of_gt (two_pos n)), show n + (m - n) - n = m - n by omega]
end Go.Proofs.Ytknadgffflhlgaa.Rf
namespace Go.Proofs.Ytknadgffflhlgaa.Rf
open Go.RowKit Fx
set_option linter.unusedVariables false
set_option linter.unusedSimpArgs false
attribute [local go_sem] setCell_drewN alloc_drewN
def qp (x d : Int) (k : Nat) : Int := x / 2 ^ k / d * 2 ^ k
theorem qp_bit (x d : Int) (k : Nat) : qp x d (k + 1) / 2 ^ k % 2 = 0 := by
  unfold qp
  rw [show (2 : Int) ^ (k + 1) = 2 * 2 ^ k by rw [Int.pow_succ, Int.mul_comm], ← Int.mul_assoc, Int.mul_ediv_cancel _ (Int.ne_of_gt (two_pos k))]
  omega
theorem half_step (x : Int) (m : Nat) : x / 2 ^ m = 2 * (x / 2 ^ (m + 1)) + x / 2 ^ m % 2 := by
  rw [div_two x m 1, show (2 : Int) ^ 1 = 2 from rfl]
  omega
theorem split_at (x d rest bt : Int) (m : Nat) (hd : 0 < d) (hr : rest = x / 2 ^ (m + 1) % d) (hb : x / 2 ^ m % 2 = bt) :
    x / 2 ^ m = d * (2 * (x / 2 ^ (m + 1) / d)) + (rest * 2 + bt) := by
  have h := half_step x m
  have e := Int.emod_add_mul_ediv (x / 2 ^ (m + 1)) d
  rw [hb] at h
  rw [h, hr]
  generalize x / 2 ^ (m + 1) = y at *
  have : d * (2 * (y / d)) = 2 * (d * (y / d)) := by rw [← Int.mul_assoc, Int.mul_comm d 2, Int.mul_assoc]
  omega
theorem dm_yes {x d rest bt : Int} {m : Nat} (hr : 0 < d ∧ 0 ≤ rest ∧ rest < d ∧ rest = x / 2 ^ (m + 1) % d) (hb : x / 2 ^ m % 2 = bt) (h2 : 0 ≤ bt ∧ bt ≤ 1) (hge : d ≤ rest * 2 + bt) :
    x / 2 ^ m / d = 2 * (x / 2 ^ (m + 1) / d) + 1 ∧ x / 2 ^ m % d = rest * 2 + bt - d := by
  have e := split_at x d rest bt m hr.1 hr.2.2.2 hb
  refine (Int.ediv_emod_unique hr.1).2 ⟨?_, by omega, by omega⟩
  rw [e, Int.mul_add]
  omega
theorem dm_no {x d rest bt : Int} {m : Nat} (hr : 0 < d ∧ 0 ≤ rest ∧ rest < d ∧ rest = x / 2 ^ (m + 1) % d) (hb : x / 2 ^ m % 2 = bt) (h2 : 0 ≤ bt ∧ bt ≤ 1) (hge : ¬ d ≤ rest * 2 + bt) :
    x / 2 ^ m / d = 2 * (x / 2 ^ (m + 1) / d) ∧ x / 2 ^ m % d = rest * 2 + bt := by
  have e := split_at x d rest bt m hr.1 hr.2.2.2 hb
  refine (Int.ediv_emod_unique hr.1).2 ⟨?_, by omega, by omega⟩
  rw [e]
  omega
theorem pow_up (q : Int) (m : Nat) : 2 * q * 2 ^ m = q * 2 ^ (m + 1) := by
  rw [Int.pow_succ, Int.mul_comm 2 q, Int.mul_assoc, Int.mul_comm 2]
theorem dq_yes {x d rest bt : Int} {m : Nat} (hr : 0 < d ∧ 0 ≤ rest ∧ rest < d ∧ rest = x / 2 ^ (m + 1) % d) (hb : x / 2 ^ m % 2 = bt) (h2 : 0 ≤ bt ∧ bt ≤ 1) (hge : d ≤ rest * 2 + bt) : qp x d m = qp x d (m + 1) + 2 ^ m := by
  unfold qp
  rw [(dm_yes hr hb h2 hge).1, Int.add_mul, pow_up, Int.one_mul]
theorem dq_no {x d rest bt : Int} {m : Nat} (hr : 0 < d ∧ 0 ≤ rest ∧ rest < d ∧ rest = x / 2 ^ (m + 1) % d) (hb : x / 2 ^ m % 2 = bt) (h2 : 0 ≤ bt ∧ bt ≤ 1) (hge : ¬ d ≤ rest * 2 + bt) : qp x d m = qp x d (m + 1) := by
  unfold qp
  rw [(dm_no hr hb h2 hge).1, pow_up]
theorem dr_yes {x d rest bt : Int} {m : Nat} (hr : 0 < d ∧ 0 ≤ rest ∧ rest < d ∧ rest = x / 2 ^ (m + 1) % d) (hb : x / 2 ^ m % 2 = bt) (h2 : 0 ≤ bt ∧ bt ≤ 1) (hge : d ≤ rest * 2 + bt) : Hid (0 < d ∧ 0 ≤ rest * 2 + bt - d ∧ rest * 2 + bt - d < d ∧ rest * 2 + bt - d = x / 2 ^ m % d) :=
  ⟨hr.1, by omega, by omega, (dm_yes hr hb h2 hge).2.symm⟩
theorem dr_no {x d rest bt : Int} {m : Nat} (hr : 0 < d ∧ 0 ≤ rest ∧ rest < d ∧ rest = x / 2 ^ (m + 1) % d) (hb : x / 2 ^ m % 2 = bt) (h2 : 0 ≤ bt ∧ bt ≤ 1) (hge : ¬ d ≤ rest * 2 + bt) : Hid (0 < d ∧ 0 ≤ rest * 2 + bt ∧ rest * 2 + bt < d ∧ rest * 2 + bt = x / 2 ^ m % d) :=
  ⟨hr.1, by omega, by omega, (dm_no hr hb h2 hge).2.symm⟩
theorem or_low (a b : Int) (ha : 0 ≤ a ∧ a < 9223372036854775808) (hb : 0 ≤ b ∧ b ≤ 1) : bits .or .u64 (a * 2) b = a * 2 + b := by
  have hw : ∀ n : Int, 0 ≤ n → n < 2 ^ 64 → IntKind.u64.wrap n = n := fun n h0 h1 => by rw [IntKind.wrap_u64]; omega
  exact bits_join .u64 64 (by decide) hw 1 _ _ (by omega) (by omega) (by omega) (by omega) (by omega) (by omega)
theorem qd_lt {x d : Int} (h0 : 0 ≤ x) (h1 : x < 2 ^ 256) (hd : 0 < d) (hr : 0 < x % d) : x / d < 2 ^ 256 - 1 := by
  have h := Int.emod_add_mul_ediv x d
  have hq : 0 ≤ x / d := Int.ediv_nonneg h0 (by omega)
  have hm : 1 * (x / d) ≤ d * (x / d) := Int.mul_le_mul_of_nonneg_right (by omega) hq
  omega
/-- A quotient of whole numbers, rounded. -/
def rqI (x d : Int) : Int := if d < 2 * (x % d) ∨ (2 * (x % d) = d ∧ x / d % 2 = 1) then x / d + 1 else x / d
set_option maxHeartbeats 8000000 in
set_option maxRecDepth 20000 in
theorem Divided_low (s : Bool) (a0 a1 a2 a3 : Int) (p0 : U a0) (p1 : U a1) (p2 : U a2) (p3 : U a3) (by_ d : Int) (hby : InR by_) (hd : 0 < d ∧ d ≤ 9223372036854775808) (hsz : Hid ((by_.natAbs : Int) = d)) (x : Int) (hx : Hid (PS 4 a0 a1 a2 a3 = x ∧ 0 ≤ x ∧ x < 2 ^ 256)) (sg2 : Bool) (hsg : Hid ((s == decide (by_ < 0)) = !sg2)) (w : World) :
    Calls Try.prog 49 #[.agg #[.bool s, .int .u64 a0, .int .u64 a1, .int .u64 a2, .int .u64 a3], .int .i64 by_] w fun e w' => ∃ v, e = .returned v ∧ IsN v sg2 (rqI x d) ∧ Below w.heap.size w w' := by
  go_enter Try.func49, Try.ntmps49
  go_wp2_with fail
  refine (size_ref by_ d hby hsz.out _).mono ?_
  rintro e w' ⟨rfl, rfl⟩
  go_wp2
  go_loopw [7, 8] (fun u v wr => ∃ (j : Nat) (i rest r0 r1 r2 r3 : Int), v = .int .i64 i ∧ u = .int .u64 rest ∧ Hid (i + 1 = (j : Int)) ∧ j ≤ 256 ∧ 0 ≤ i + 1 ∧ i < 256 ∧ Hid (PS 4 r0 r1 r2 r3 = qp x d j) ∧ Hid (0 < d ∧ 0 ≤ rest ∧ rest < d ∧ rest = x / 2 ^ j % d) ∧ 0 ≤ rest ∧ rest < d ∧
      Mem (w.heap.size + 1 + 1) ((w.alloc (.cells #[.bool s, .int .u64 a0, .int .u64 a1, .int .u64 a2, .int .u64 a3] 60)).alloc (.cells #[.bool false, .int .u64 0, .int .u64 0, .int .u64 0, .int .u64 0] 60)) (w.heap.size + 1 + 1) sg2 r0 r1 r2 r3 wr) (fun _ v _ => (intOf v + 1).toNat)
  case atStart =>
    have hz : x / 2 ^ 256 = 0 := Int.ediv_eq_zero_of_lt hx.out.2.1 hx.out.2.2
    refine ⟨256, 255, 0, 0, 0, 0, 0, rfl, rfl, rfl, by omega, by omega, by omega, ?_, ?_, by omega, by omega, ?_⟩
    · show PS 4 0 0 0 0 = qp x d 256
      unfold qp
      rw [PS4, hz]
      simp
    · refine ⟨hd.1, by omega, hd.1, ?_⟩
      rw [hz]
      simp
    · exact ⟨by go_grown, by omega, by simp, by simp [go_sem]; exact hsg.out, by simp [go_sem], by simp [go_sem], by simp [go_sem], by simp [go_sem], fun o => by simp [go_sem], by unfold U; omega, by unfold U; omega, by unfold U; omega, by unfold U; omega⟩
  case round =>
    obtain ⟨j, i, rest, r0, r1, r2, r3, rfl, rfl, hij, hj, hi0, hi, hPS, HR, hr0, hr1, hM⟩ := hrel
    have hcell := (bcell hM.below).1
    have hfroz := (bcell hM.below).2
    have hc0 := hM.c0
    have hc1 := hM.c1
    have hc2 := hM.c2
    have hc3 := hM.c3
    have hc4 := hM.c4
    have hfz := hM.fz
    by_cases hlt : 0 ≤ i
    · obtain ⟨m, rfl⟩ : ∃ m, j = m + 1 := ⟨j - 1, by have := hij.out; omega⟩
      obtain ⟨bt, ebt⟩ : ∃ b, b = PS 4 a0 a1 a2 a3 / 2 ^ m % 2 := ⟨_, rfl⟩
      have hbit : Hid (x / 2 ^ m % 2 = bt) := by show _ = _; rw [← hx.out.1, ebt]
      have HB : Hid (bt = PS 4 a0 a1 a2 a3 / 2 ^ m % 2) := ebt
      have hb01 : 0 ≤ bt ∧ bt ≤ 1 := by omega
      have h2 : Hid (0 ≤ bt ∧ bt ≤ 1) := hb01
      clear ebt
      have hol := or_low rest bt (by omega) hb01
      have htop : rest / 9223372036854775808 = 0 := by omega
      go_wp2_with fail
      refine (bit_n a0 a1 a2 a3 p0 p1 p2 p3 m (by omega) _ bt (by have := hij.out; omega) HB.out _).mono ?_
      rintro e w1 ⟨rfl, hb⟩
      have hM1 := hM.up hb
      clear hcell hfroz hc0 hc1 hc2 hc3 hc4 hfz
      have hcell := (bcell hM1.below).1
      have hfroz := (bcell hM1.below).2
      have hc0 := hM1.c0
      have hc1 := hM1.c1
      have hc2 := hM1.c2
      have hc3 := hM1.c3
      have hc4 := hM1.c4
      have hfz := hM1.fz
      by_cases hge : d ≤ rest * 2 + bt
      · obtain ⟨tt, ett⟩ : ∃ tt, tt = m % 64 := ⟨_, rfl⟩
        have htt : tt < 64 := by omega
        have ETT : Hid (tt = m % 64) := ett
        clear ett
        have hq : m / 64 = 0 ∨ m / 64 = 1 ∨ m / 64 = 2 ∨ m / 64 = 3 := by omega
        rcases hq with hq | hq | hq | hq
        · have ett := ETT.out
          have hi1 : i % 64 = (tt : Int) := by have := hij.out; omega
          have hi2 : i / 64 = 0 := by have := hij.out; omega
          have hbz : r0 / 2 ^ tt % 2 = 0 := by
            rw [← (limb_bit r0 r1 r2 r3 hM.u0 hM.u1 hM.u2 hM.u3 tt htt).1, show 64 * 0 + tt = m by omega, hPS.out]
            exact qp_bit _ _ _
          have hor := or_set r0 tt hM.u0 htt hbz
          have hor1 := hor.1
          have hwp := wrap_pow tt htt
          have HM : Hid (m = 64 * 0 + tt) := by show _ = _; omega
          clear hbz ett hq
          go_wp2
          go_roundw
          case rel => exact ⟨m, i - 1, _, (r0 + 2 ^ tt), r1, r2, r3, rfl, rfl, by have := hij.out; show i - 1 + 1 = _; omega, by omega, by omega, by omega, set_num0 hPS tt m HM.out (dq_yes HR.out hbit.out h2.out hge), dr_yes HR.out hbit.out h2.out hge, by omega, by omega, hM1.set0 hor.2⟩
          case measure => simp [intOf]; omega
        · have ett := ETT.out
          have hi1 : i % 64 = (tt : Int) := by have := hij.out; omega
          have hi2 : i / 64 = 1 := by have := hij.out; omega
          have hbz : r1 / 2 ^ tt % 2 = 0 := by
            rw [← (limb_bit r0 r1 r2 r3 hM.u0 hM.u1 hM.u2 hM.u3 tt htt).2.1, show 64 * 1 + tt = m by omega, hPS.out]
            exact qp_bit _ _ _
          have hor := or_set r1 tt hM.u1 htt hbz
          have hor1 := hor.1
          have hwp := wrap_pow tt htt
          have HM : Hid (m = 64 * 1 + tt) := by show _ = _; omega
          clear hbz ett hq
          go_wp2
          go_roundw
          case rel => exact ⟨m, i - 1, _, r0, (r1 + 2 ^ tt), r2, r3, rfl, rfl, by have := hij.out; show i - 1 + 1 = _; omega, by omega, by omega, by omega, set_num1 hPS tt m HM.out (dq_yes HR.out hbit.out h2.out hge), dr_yes HR.out hbit.out h2.out hge, by omega, by omega, hM1.set1 hor.2⟩
          case measure => simp [intOf]; omega
        · have ett := ETT.out
          have hi1 : i % 64 = (tt : Int) := by have := hij.out; omega
          have hi2 : i / 64 = 2 := by have := hij.out; omega
          have hbz : r2 / 2 ^ tt % 2 = 0 := by
            rw [← (limb_bit r0 r1 r2 r3 hM.u0 hM.u1 hM.u2 hM.u3 tt htt).2.2.1, show 64 * 2 + tt = m by omega, hPS.out]
            exact qp_bit _ _ _
          have hor := or_set r2 tt hM.u2 htt hbz
          have hor1 := hor.1
          have hwp := wrap_pow tt htt
          have HM : Hid (m = 64 * 2 + tt) := by show _ = _; omega
          clear hbz ett hq
          go_wp2
          go_roundw
          case rel => exact ⟨m, i - 1, _, r0, r1, (r2 + 2 ^ tt), r3, rfl, rfl, by have := hij.out; show i - 1 + 1 = _; omega, by omega, by omega, by omega, set_num2 hPS tt m HM.out (dq_yes HR.out hbit.out h2.out hge), dr_yes HR.out hbit.out h2.out hge, by omega, by omega, hM1.set2 hor.2⟩
          case measure => simp [intOf]; omega
        · have ett := ETT.out
          have hi1 : i % 64 = (tt : Int) := by have := hij.out; omega
          have hi2 : i / 64 = 3 := by have := hij.out; omega
          have hbz : r3 / 2 ^ tt % 2 = 0 := by
            rw [← (limb_bit r0 r1 r2 r3 hM.u0 hM.u1 hM.u2 hM.u3 tt htt).2.2.2, show 64 * 3 + tt = m by omega, hPS.out]
            exact qp_bit _ _ _
          have hor := or_set r3 tt hM.u3 htt hbz
          have hor1 := hor.1
          have hwp := wrap_pow tt htt
          have HM : Hid (m = 64 * 3 + tt) := by show _ = _; omega
          clear hbz ett hq
          go_wp2
          go_roundw
          case rel => exact ⟨m, i - 1, _, r0, r1, r2, (r3 + 2 ^ tt), rfl, rfl, by have := hij.out; show i - 1 + 1 = _; omega, by omega, by omega, by omega, set_num3 hPS tt m HM.out (dq_yes HR.out hbit.out h2.out hge), dr_yes HR.out hbit.out h2.out hge, by omega, by omega, hM1.set3 hor.2⟩
          case measure => simp [intOf]; omega
      · go_wp2
        go_roundw
        case rel => exact ⟨m, i - 1, _, r0, r1, r2, r3, rfl, rfl, by have := hij.out; show i - 1 + 1 = _; omega, by omega, by omega, by omega, (by show _ = _; rw [hPS.out]; exact (dq_no HR.out hbit.out h2.out (by omega)).symm), dr_no HR.out hbit.out h2.out (by omega), by omega, by omega, hM1⟩
        case measure => simp [intOf]; omega
    · obtain rfl : j = 0 := by have := hij.out; omega
      have hx0 : x / 2 ^ 0 = x := by rw [show (2 : Int) ^ 0 = 1 from rfl, Int.ediv_one]
      have hq0 : Hid (PS 4 r0 r1 r2 r3 = x / d) := by show _ = _; rw [hPS.out]; unfold qp; rw [hx0, show (2 : Int) ^ 0 = 1 from rfl, Int.mul_one]
      have hre : Hid (rest = x % d) := by show _ = _; have := HR.out.2.2.2; rw [hx0] at this; exact this
      have hpar : Hid (r0 % 2 = x / d % 2) := by
        show _ = _
        rw [← hq0.out, PS4]
        omega
      have hand : bits .and .u64 r0 1 = r0 % 2 := and_one_u64 r0 hM.u0.1 (by have := hM.u0.2; omega)
      clear hx0
      have key : (d - rest < rest ∧ rqI x d = x / d + 1) ∨ (rest ≤ d - rest ∧ d - rest ≤ rest ∧ (r0 % 2 == 1) = true ∧ rqI x d = x / d + 1) ∨ (rest ≤ d - rest ∧ d - rest ≤ rest ∧ (r0 % 2 == 1) = false ∧ rqI x d = x / d) ∨ (rest < d - rest ∧ rqI x d = x / d) := by
        have e1 := hre.out
        have e2 := hpar.out
        unfold rqI
        rw [← e1, ← e2]
        rcases Int.lt_trichotomy rest (d - rest) with h | h | h
        · right; right; right
          exact ⟨h, by rw [if_neg (by omega)]⟩
        · right
          by_cases hp2 : r0 % 2 = 1
          · left
            exact ⟨by omega, by omega, by simpa using hp2, by rw [if_pos (by omega)]⟩
          · right; left
            exact ⟨by omega, by omega, by simpa using hp2, by rw [if_neg (by omega)]⟩
        · left
          exact ⟨h, by rw [if_pos (by omega)]⟩
      have up : Hid (rqI x d = x / d + 1) → ∀ w2 : World, Below wr.heap.size wr w2 → True := fun _ _ _ => trivial
      rcases key with ⟨k1, k2⟩ | ⟨k1, k1', k2, k3⟩ | ⟨k1, k1', k2, k3⟩ | ⟨k1, k2⟩
      · have KQ : Hid (rqI x d = x / d + 1) := k2
        clear k2
        go_wp2_with fail
        refine (plus_low r0 r1 r2 r3 1 0 0 0 hM.u0 hM.u1 hM.u2 hM.u3 (by unfold U; omega) (by unfold U; omega) (by unfold U; omega) (by unfold U; omega) _).mono ?_
        rintro e w2 ⟨c0, c1, c2, c3, cr, rfl, v0, v1, v2, v3, hinv, hb⟩
        have hM2 := hM.up hb
        have hM3 := (((hM2.set0 v0).set1 v1).set2 v2).set3 v3
        have hnum : Hid (PS 4 c0 c1 c2 c3 = rqI x d) := by
          show _ = _
          have h := hinv.out
          rw [hq0.out, BP4, PS4 1 0 0 0] at h
          rw [KQ.out]
          have hlt2 : x / d < 2 ^ 256 - 1 := qd_lt hx.out.2.1 hx.out.2.2 hd.1 (by have := hre.out; (try have := KT.out); omega)
          have hc : 0 ≤ PS 4 c0 c1 c2 c3 := by rw [PS4]; unfold U at *; omega
          omega
        clear hcell hfroz hc0 hc1 hc2 hc3 hc4 hfz
        have hcell := (bcell hM2.below).1
        have hfroz := (bcell hM2.below).2
        have hc0 := hM2.c0
        have hc1 := hM2.c1
        have hc2 := hM2.c2
        have hc3 := hM2.c3
        have hc4 := hM2.c4
        have hfz := hM2.fz
        have hd0 := hM3.c0
        have hd1 := hM3.c1
        have hd2 := hM3.c2
        have hd3 := hM3.c3
        have hd4 := hM3.c4
        go_wp2
        obtain ⟨f0, f1, f2, f3, f4⟩ := five ((((w2.setCell ⟨w.heap.size + 1 + 1, 1, none⟩ (.int .u64 c0)).setCell ⟨w.heap.size + 1 + 1, 2, none⟩ (.int .u64 c1)).setCell ⟨w.heap.size + 1 + 1, 3, none⟩ (.int .u64 c2)).setCell ⟨w.heap.size + 1 + 1, 4, none⟩ (.int .u64 c3)) (w.heap.size + 1) (.bool sg2) (.int .u64 c0) (.int .u64 c1) (.int .u64 c2) (.int .u64 c3) (by rw [(bcell hM3.below).1 _ _ (by simp)]; simp [go_sem]; rfl) (by rw [(bcell hM3.below).1 _ _ (by simp)]; simp [go_sem]; rfl) (by rw [(bcell hM3.below).1 _ _ (by simp)]; simp [go_sem]; rfl) (by rw [(bcell hM3.below).1 _ _ (by simp)]; simp [go_sem]; rfl) (by rw [(bcell hM3.below).1 _ _ (by simp)]; simp [go_sem]; rfl)
        have hB : Below w.heap.size w ((((w2.setCell ⟨w.heap.size + 1 + 1, 1, none⟩ (.int .u64 c0)).setCell ⟨w.heap.size + 1 + 1, 2, none⟩ (.int .u64 c1)).setCell ⟨w.heap.size + 1 + 1, 3, none⟩ (.int .u64 c2)).setCell ⟨w.heap.size + 1 + 1, 4, none⟩ (.int .u64 c3)) := Below.trans (by go_grown) (hM3.below.mono (by omega))
        refine bodyPost_ret (v := .agg #[.bool sg2, .int .u64 c0, .int .u64 c1, .int .u64 c2, .int .u64 c3]) (by simp [results, Try.results49, go_sem, f0, f1, f2, f3, f4]) rfl ⟨_, rfl, ⟨c0, c1, c2, c3, rfl, hM3.u0, hM3.u1, hM3.u2, hM3.u3, hnum.out⟩, ?_⟩
        exact Below.setCell (Below.setCell (Below.setCell (Below.setCell (Below.setCell hB (by simp) _) (by simp) _) (by simp) _) (by simp) _) (by simp) _
      · have KQ : Hid (rqI x d = x / d + 1) := k3
        have hk : (rest == d - rest) = true := by rw [beq_iff_eq]; omega
        have KT : Hid (d - rest ≤ rest) := k1'
        clear k3 k1'
        go_wp2_with fail
        refine (plus_low r0 r1 r2 r3 1 0 0 0 hM.u0 hM.u1 hM.u2 hM.u3 (by unfold U; omega) (by unfold U; omega) (by unfold U; omega) (by unfold U; omega) _).mono ?_
        rintro e w2 ⟨c0, c1, c2, c3, cr, rfl, v0, v1, v2, v3, hinv, hb⟩
        have hM2 := hM.up hb
        have hM3 := (((hM2.set0 v0).set1 v1).set2 v2).set3 v3
        have hnum : Hid (PS 4 c0 c1 c2 c3 = rqI x d) := by
          show _ = _
          have h := hinv.out
          rw [hq0.out, BP4, PS4 1 0 0 0] at h
          rw [KQ.out]
          have hlt2 : x / d < 2 ^ 256 - 1 := qd_lt hx.out.2.1 hx.out.2.2 hd.1 (by have := hre.out; (try have := KT.out); omega)
          have hc : 0 ≤ PS 4 c0 c1 c2 c3 := by rw [PS4]; unfold U at *; omega
          omega
        clear hcell hfroz hc0 hc1 hc2 hc3 hc4 hfz
        have hcell := (bcell hM2.below).1
        have hfroz := (bcell hM2.below).2
        have hc0 := hM2.c0
        have hc1 := hM2.c1
        have hc2 := hM2.c2
        have hc3 := hM2.c3
        have hc4 := hM2.c4
        have hfz := hM2.fz
        have hd0 := hM3.c0
        have hd1 := hM3.c1
        have hd2 := hM3.c2
        have hd3 := hM3.c3
        have hd4 := hM3.c4
        go_wp2
        obtain ⟨f0, f1, f2, f3, f4⟩ := five ((((w2.setCell ⟨w.heap.size + 1 + 1, 1, none⟩ (.int .u64 c0)).setCell ⟨w.heap.size + 1 + 1, 2, none⟩ (.int .u64 c1)).setCell ⟨w.heap.size + 1 + 1, 3, none⟩ (.int .u64 c2)).setCell ⟨w.heap.size + 1 + 1, 4, none⟩ (.int .u64 c3)) (w.heap.size + 1) (.bool sg2) (.int .u64 c0) (.int .u64 c1) (.int .u64 c2) (.int .u64 c3) (by rw [(bcell hM3.below).1 _ _ (by simp)]; simp [go_sem]; rfl) (by rw [(bcell hM3.below).1 _ _ (by simp)]; simp [go_sem]; rfl) (by rw [(bcell hM3.below).1 _ _ (by simp)]; simp [go_sem]; rfl) (by rw [(bcell hM3.below).1 _ _ (by simp)]; simp [go_sem]; rfl) (by rw [(bcell hM3.below).1 _ _ (by simp)]; simp [go_sem]; rfl)
        have hB : Below w.heap.size w ((((w2.setCell ⟨w.heap.size + 1 + 1, 1, none⟩ (.int .u64 c0)).setCell ⟨w.heap.size + 1 + 1, 2, none⟩ (.int .u64 c1)).setCell ⟨w.heap.size + 1 + 1, 3, none⟩ (.int .u64 c2)).setCell ⟨w.heap.size + 1 + 1, 4, none⟩ (.int .u64 c3)) := Below.trans (by go_grown) (hM3.below.mono (by omega))
        refine bodyPost_ret (v := .agg #[.bool sg2, .int .u64 c0, .int .u64 c1, .int .u64 c2, .int .u64 c3]) (by simp [results, Try.results49, go_sem, f0, f1, f2, f3, f4]) rfl ⟨_, rfl, ⟨c0, c1, c2, c3, rfl, hM3.u0, hM3.u1, hM3.u2, hM3.u3, hnum.out⟩, ?_⟩
        exact Below.setCell (Below.setCell (Below.setCell (Below.setCell (Below.setCell hB (by simp) _) (by simp) _) (by simp) _) (by simp) _) (by simp) _
      · have KQ : Hid (rqI x d = x / d) := k3
        have hk : (rest == d - rest) = true := by rw [beq_iff_eq]; omega
        clear k3 k1'
        go_wp2
        obtain ⟨f0, f1, f2, f3, f4⟩ := five wr (w.heap.size + 1) (.bool sg2) (.int .u64 r0) (.int .u64 r1) (.int .u64 r2) (.int .u64 r3) (by rw [(bcell hM.below).1 _ _ (by simp)]; simp [go_sem]; rfl) (by rw [(bcell hM.below).1 _ _ (by simp)]; simp [go_sem]; rfl) (by rw [(bcell hM.below).1 _ _ (by simp)]; simp [go_sem]; rfl) (by rw [(bcell hM.below).1 _ _ (by simp)]; simp [go_sem]; rfl) (by rw [(bcell hM.below).1 _ _ (by simp)]; simp [go_sem]; rfl)
        have hB : Below w.heap.size w wr := Below.trans (by go_grown) (hM.below.mono (by omega))
        refine bodyPost_ret (v := .agg #[.bool sg2, .int .u64 r0, .int .u64 r1, .int .u64 r2, .int .u64 r3]) (by simp [results, Try.results49, go_sem, f0, f1, f2, f3, f4]) rfl ⟨_, rfl, ⟨r0, r1, r2, r3, rfl, hM.u0, hM.u1, hM.u2, hM.u3, by rw [KQ.out]; exact hq0.out⟩, ?_⟩
        exact Below.setCell (Below.setCell (Below.setCell (Below.setCell (Below.setCell hB (by simp) _) (by simp) _) (by simp) _) (by simp) _) (by simp) _
      · have KQ : Hid (rqI x d = x / d) := k2
        clear k2
        go_wp2
        obtain ⟨f0, f1, f2, f3, f4⟩ := five wr (w.heap.size + 1) (.bool sg2) (.int .u64 r0) (.int .u64 r1) (.int .u64 r2) (.int .u64 r3) (by rw [(bcell hM.below).1 _ _ (by simp)]; simp [go_sem]; rfl) (by rw [(bcell hM.below).1 _ _ (by simp)]; simp [go_sem]; rfl) (by rw [(bcell hM.below).1 _ _ (by simp)]; simp [go_sem]; rfl) (by rw [(bcell hM.below).1 _ _ (by simp)]; simp [go_sem]; rfl) (by rw [(bcell hM.below).1 _ _ (by simp)]; simp [go_sem]; rfl)
        have hB : Below w.heap.size w wr := Below.trans (by go_grown) (hM.below.mono (by omega))
        refine bodyPost_ret (v := .agg #[.bool sg2, .int .u64 r0, .int .u64 r1, .int .u64 r2, .int .u64 r3]) (by simp [results, Try.results49, go_sem, f0, f1, f2, f3, f4]) rfl ⟨_, rfl, ⟨r0, r1, r2, r3, rfl, hM.u0, hM.u1, hM.u2, hM.u3, by rw [KQ.out]; exact hq0.out⟩, ?_⟩
        exact Below.setCell (Below.setCell (Below.setCell (Below.setCell (Below.setCell hB (by simp) _) (by simp) _) (by simp) _) (by simp) _) (by simp) _
end Go.Proofs.Ytknadgffflhlgaa.Rf
