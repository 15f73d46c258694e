/- What each function of package fix hands back, for all numbers, as a plain function of integers. -/
import Derived.Test.YtlehlikgehbnfabProg
import Derived.Test.YtlehlikgehbnfabShelf
import Derived.Test.YtlehlikgehbnfabMath
import Derived.WalkKit
import Derived.ProofKit
import Derived.WalkSpells
namespace Go.Proofs.Ytlehlikgehbnfab.Fx
open Go.RowKit
theorem ret_int {k : IntKind} {a b : Int} (h : a = b) : Ending.returned (.int k a) = .returned (.int k b) := by rw [h]

theorem bound_any (b : Bool) (w : World) :
    Calls Try.prog 25 #[.bool b] w fun e w' => e = .returned (.int .i64 (lim b)) ∧ w' = w := by
  cases b
  all_goals
    go_enter Try.func25, Try.ntmps25
    go_wp2
    go_ret
    exact ⟨rfl, rfl⟩
theorem size_any (a : Int) (n : Nat) (ha : InR a) (hn : a.natAbs = n) (w : World) :
    Calls Try.prog 24 #[.int .i64 a] w fun e w' => e = .returned (.int .u64 n) ∧ w' = w := by
  unfold InR at ha
  have H : Hid (a.natAbs = n) := hn
  clear hn
  by_cases h : a < 0
  all_goals
    go_enter Try.func24, Try.ntmps24
    go_wp2
    go_ret
    refine ⟨ret_int ?_, rfl⟩
    have hn := H.out
    try simp only [IntKind.wrap_u64]
    omega
theorem held_any (b : Bool) (n : Nat) (hn : n < 18446744073709551616) (w : World) :
    Calls Try.prog 27 #[.bool b, .int .u64 n] w fun e w' => e = .returned (.int .i64 (hold (sg b n))) ∧ w' = w := by
  by_cases h : 9223372036854775807 < n
  · go_enter Try.func27, Try.ntmps27
    go_wp2_with (go_at_call 25; refine (bound_any _ _).mono ?_; rintro e w' ⟨rfl, rfl⟩)
    go_ret
    exact ⟨ret_int (held_far b n h), rfl⟩
  · cases b
    all_goals
      go_enter Try.func27, Try.ntmps27
      go_wp2
      go_ret
      first | exact ⟨ret_int (held_up n (by omega)), rfl⟩ | exact ⟨ret_int (held_down n (by omega)), rfl⟩
theorem nearest_any (q r d : Nat) (hq : q < 18446744073709551615) (hr : r < d) (hd : d ≤ 9223372036854775808) (w : World) :
    Calls Try.prog 28 #[.int .u64 q, .int .u64 r, .int .u64 d] w fun e w' => e = .returned (.int .u64 (nr q r d : Nat)) ∧ w' = w := by
  go_enter Try.func28, Try.ntmps28
  go_wp2
  all_goals
    go_ret
    refine ⟨ret_int ?_, rfl⟩
    try simp only [beq_iff_eq, beq_eq_false_iff_ne, ne_eq] at *
    unfold nr
    split <;> omega
theorem of_any (n : Int) (hn : InR n) (w : World) :
    Calls Try.prog 19 #[.int .i64 n] w fun e w' => e = .returned (.int .i64 (hold (n * 4294967296))) ∧ w' = w := by
  unfold InR at hn
  by_cases h1 : n > 2147483647
  · go_enter Try.func19, Try.ntmps19
    go_wp2
    go_ret
    exact ⟨ret_int (hold_hi (by omega)).symm, rfl⟩
  · by_cases h2 : n < -2147483648
    · go_enter Try.func19, Try.ntmps19
      go_wp2
      go_ret
      exact ⟨ret_int (hold_lo (by omega)).symm, rfl⟩
    · go_enter Try.func19, Try.ntmps19
      go_wp2
      go_ret
      refine ⟨ret_int ?_, rfl⟩
      rw [hold_in (by omega) (by omega)]
theorem add_any (a b : Int) (ha : InR a) (hb : InR b) (w : World) :
    Calls Try.prog 22 #[.int .i64 a, .int .i64 b] w fun e w' => e = .returned (.int .i64 (hold (a + b))) ∧ w' = w := by
  go_enter Try.func22, Try.ntmps22
  go_wp2_with (go_at_call 25; refine (bound_any _ _).mono ?_; rintro e w' ⟨rfl, rfl⟩)
  all_goals
    go_ret
    first
    | exact ⟨ret_int (add_over' a b ha hb ‹_›), rfl⟩
    | exact ⟨ret_int (add_fits a b ha hb ‹_›), rfl⟩
theorem sub_any (a b : Int) (ha : InR a) (hb : InR b) (w : World) :
    Calls Try.prog 29 #[.int .i64 a, .int .i64 b] w fun e w' => e = .returned (.int .i64 (hold (a - b))) ∧ w' = w := by
  go_enter Try.func29, Try.ntmps29
  go_wp2_with (go_at_call 25; refine (bound_any _ _).mono ?_; rintro e w' ⟨rfl, rfl⟩)
  all_goals
    go_ret
    first
    | exact ⟨ret_int (sub_over' a b ha hb ‹_›), rfl⟩
    | exact ⟨ret_int (sub_fits a b ha hb ‹_›), rfl⟩
end Go.Proofs.Ytlehlikgehbnfab.Fx
