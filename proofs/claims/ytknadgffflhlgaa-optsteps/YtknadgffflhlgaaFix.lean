/- What each function of package fix hands back, for all numbers, as a plain function of integers. -/
import Derived.Test.YtknadgffflhlgaaProg
import Derived.Test.YtknadgffflhlgaaShelf
import Derived.Test.YtknadgffflhlgaaMath
import Derived.WalkKit
import Derived.ProofKit
import Derived.WalkSpells
namespace Go.Proofs.Ytknadgffflhlgaa.Fx
open Go.RowKit
theorem ret_int {k : IntKind} {a b : Int} (h : a = b) : Ending.returned (.int k a) = .returned (.int k b) := by rw [h]

theorem bound_any (b : Bool) (w : World) :
    Calls Try.prog 41 #[.bool b] w fun e w' => e = .returned (.int .i64 (lim b)) ∧ w' = w := by
  cases b
  all_goals
    go_enter Try.func41, Try.ntmps41
    go_wp2
    go_ret
    exact ⟨rfl, rfl⟩
theorem size_any (a : Int) (n : Nat) (ha : InR a) (hn : a.natAbs = n) (w : World) :
    Calls Try.prog 43 #[.int .i64 a] w fun e w' => e = .returned (.int .u64 n) ∧ w' = w := by
  unfold InR at ha
  have H : Hid (a.natAbs = n) := hn
  clear hn
  by_cases h : a < 0
  all_goals
    go_enter Try.func43, Try.ntmps43
    go_wp2
    go_ret
    refine ⟨ret_int ?_, rfl⟩
    have hn := H.out
    try simp only [IntKind.wrap_u64]
    omega
theorem held_any (b : Bool) (n : Nat) (hn : n < 18446744073709551616) (w : World) :
    Calls Try.prog 44 #[.bool b, .int .u64 n] w fun e w' => e = .returned (.int .i64 (hold (sg b n))) ∧ w' = w := by
  by_cases h : 9223372036854775807 < n
  · go_enter Try.func44, Try.ntmps44
    go_wp2_with (go_at_call 41; refine (bound_any _ _).mono ?_; rintro e w' ⟨rfl, rfl⟩)
    go_ret
    exact ⟨ret_int (held_far b n h), rfl⟩
  · cases b
    all_goals
      go_enter Try.func44, Try.ntmps44
      go_wp2
      go_ret
      first | exact ⟨ret_int (held_up n (by omega)), rfl⟩ | exact ⟨ret_int (held_down n (by omega)), rfl⟩
theorem nearest_any (q r d : Nat) (hq : q < 18446744073709551615) (hr : r < d) (hd : d ≤ 9223372036854775808) (w : World) :
    Calls Try.prog 57 #[.int .u64 q, .int .u64 r, .int .u64 d] w fun e w' => e = .returned (.int .u64 (nr q r d : Nat)) ∧ w' = w := by
  go_enter Try.func57, Try.ntmps57
  go_wp2
  all_goals
    go_ret
    refine ⟨ret_int ?_, rfl⟩
    try simp only [beq_iff_eq, beq_eq_false_iff_ne, ne_eq] at *
    unfold nr
    split <;> omega
theorem byParts_any (hi lo : Nat) (h1 : hi < 2147483648) (h2 : lo < 18446744073709551616) (w : World) :
    Calls Try.prog 45 #[.int .u64 hi, .int .u64 lo] w fun e w' => e = .returned (.int .u64 (rq (hi * 18446744073709551616 + lo) 4294967296 : Nat)) ∧ w' = w := by
  go_enter Try.func45, Try.ntmps45
  go_wp2_with fail
  rw [joinN hi lo (by omega) h2, maskN lo h2]
  have c := nearest_any (hi * 4294967296 + lo / 4294967296) (lo % 4294967296) 4294967296 (by omega) (by omega) (by omega) w
  rw [show ((4294967296 : Nat) : Int) = 4294967296 from rfl] at c
  refine c.mono ?_
  rintro e w' ⟨rfl, rfl⟩
  go_wp2
  go_ret
  refine ⟨ret_int ?_, rfl⟩
  rw [← rq_nr, parts_q, parts_r]
theorem add_any (a b : Int) (ha : InR a) (hb : InR b) (w : World) :
    Calls Try.prog 23 #[.int .i64 a, .int .i64 b] w fun e w' => e = .returned (.int .i64 (hold (a + b))) ∧ w' = w := by
  go_enter Try.func23, Try.ntmps23
  go_wp2_with (go_at_call 41; refine (bound_any _ _).mono ?_; rintro e w' ⟨rfl, rfl⟩)
  all_goals
    go_ret
    first
    | exact ⟨ret_int (add_over' a b ha hb ‹_›), rfl⟩
    | exact ⟨ret_int (add_fits a b ha hb ‹_›), rfl⟩
theorem sub_any (a b : Int) (ha : InR a) (hb : InR b) (w : World) :
    Calls Try.prog 25 #[.int .i64 a, .int .i64 b] w fun e w' => e = .returned (.int .i64 (hold (a - b))) ∧ w' = w := by
  go_enter Try.func25, Try.ntmps25
  go_wp2_with (go_at_call 41; refine (bound_any _ _).mono ?_; rintro e w' ⟨rfl, rfl⟩)
  all_goals
    go_ret
    first
    | exact ⟨ret_int (sub_over' a b ha hb ‹_›), rfl⟩
    | exact ⟨ret_int (sub_fits a b ha hb ‹_›), rfl⟩
theorem mul64_at (x y hi lo : Nat) (hx : x < 18446744073709551616) (hy : y < 18446744073709551616) (e1 : hi = x * y / 18446744073709551616) (e2 : lo = x * y % 18446744073709551616) (w : World) :
    Calls Try.prog 42 #[.int .u64 x, .int .u64 y] w fun e w' => e = .returned (.tuple #[.int .u64 hi, .int .u64 lo]) ∧ w' = w := by
  subst e1 e2
  exact Try.bits_Mul64 x y hx hy w
theorem mul_any (a b : Int) (ha : InR a) (hb : InR b) (w : World) :
    Calls Try.prog 24 #[.int .i64 a, .int .i64 b] w fun e w' => e = .returned (.int .i64 (mulI a b)) ∧ w' = w := by
  have hx : a.natAbs ≤ 9223372036854775808 := by unfold InR at ha; omega
  have hy : b.natAbs ≤ 9223372036854775808 := by unfold InR at hb; omega
  obtain ⟨x, ea⟩ : ∃ x, a.natAbs = x := ⟨_, rfl⟩
  obtain ⟨y, eb⟩ : ∃ y, b.natAbs = y := ⟨_, rfl⟩
  obtain ⟨hi, e1⟩ : ∃ hi, hi = x * y / 18446744073709551616 := ⟨_, rfl⟩
  obtain ⟨lo, e2⟩ : ∃ lo, lo = x * y % 18446744073709551616 := ⟨_, rfl⟩
  have hh : hi ≤ 4611686018427387904 := by
    have := Nat.mul_le_mul (ea ▸ hx) (eb ▸ hy)
    omega
  have hl : lo < 18446744073709551616 := by omega
  have E : Hid (a.natAbs = x ∧ b.natAbs = y ∧ hi = x * y / 18446744073709551616 ∧ lo = x * y % 18446744073709551616) := ⟨ea, eb, e1, e2⟩
  have hx' : x < 18446744073709551616 := by omega
  have hy' : y < 18446744073709551616 := by omega
  clear ea eb e1 e2
  by_cases hf : hi < 2147483648
  all_goals
    go_enter Try.func24, Try.ntmps24
    go_wp2_with fail
    refine (size_any a x ha E.out.1 _).mono ?_
    rintro e w' ⟨rfl, rfl⟩
    go_wp2_with fail
    refine (size_any b y hb E.out.2.1 _).mono ?_
    rintro e w' ⟨rfl, rfl⟩
    go_wp2_with fail
    refine (mul64_at x y hi lo hx' hy' E.out.2.2.1 E.out.2.2.2 _).mono ?_
    rintro e w' ⟨rfl, rfl⟩
    go_wp2_with fail
  · refine (byParts_any hi lo hf hl _).mono ?_
    rintro e w' ⟨rfl, rfl⟩
    go_wp2_with fail
    refine (held_any _ _ (parts_lt hi lo hf hl) _).mono ?_
    rintro e w' ⟨rfl, rfl⟩
    go_wp2
    go_ret
    exact ⟨ret_int (mul_near a b x y E.out.1 E.out.2.1 hi lo E.out.2.2.1 E.out.2.2.2), rfl⟩
  · refine (bound_any _ _).mono ?_
    rintro e w' ⟨rfl, rfl⟩
    go_wp2
    go_ret
    exact ⟨ret_int (mul_far a b x y E.out.1 E.out.2.1 (by have := E.out.2.2.1; omega)), rfl⟩
end Go.Proofs.Ytknadgffflhlgaa.Fx
