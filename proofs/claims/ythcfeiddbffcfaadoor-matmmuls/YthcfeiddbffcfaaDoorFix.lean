/- What each function of package fix hands back, for all numbers, as a plain function of integers. -/
import Derived.Test.YthcfeiddbffcfaaDoorProg
import Derived.Test.YthcfeiddbffcfaaDoorShelf
import Derived.Test.YthcfeiddbffcfaaDoorMath
import Derived.WalkKit
import Derived.ProofKit
import Derived.WalkSpells
namespace Go.Proofs.YthcfeiddbffcfaaDoor.Fx
open Go.RowKit
theorem ret_int {k : IntKind} {a b : Int} (h : a = b) : Ending.returned (.int k a) = .returned (.int k b) := by rw [h]

theorem bound_any (b : Bool) (w : World) :
    Calls Tryd.prog 76 #[.bool b] w fun e w' => e = .returned (.int .i64 (lim b)) ∧ w' = w := by
  cases b
  all_goals
    go_enter Tryd.func76, Tryd.ntmps76
    go_wp2
    go_ret
    exact ⟨rfl, rfl⟩
theorem size_any (a : Int) (n : Nat) (ha : InR a) (hn : a.natAbs = n) (w : World) :
    Calls Tryd.prog 75 #[.int .i64 a] w fun e w' => e = .returned (.int .u64 n) ∧ w' = w := by
  unfold InR at ha
  have H : Hid (a.natAbs = n) := hn
  clear hn
  by_cases h : a < 0
  all_goals
    go_enter Tryd.func75, Tryd.ntmps75
    go_wp2
    go_ret
    refine ⟨ret_int ?_, rfl⟩
    have hn := H.out
    try simp only [IntKind.wrap_u64]
    omega
theorem held_any (b : Bool) (n : Nat) (hn : n < 18446744073709551616) (w : World) :
    Calls Tryd.prog 77 #[.bool b, .int .u64 n] w fun e w' => e = .returned (.int .i64 (hold (sg b n))) ∧ w' = w := by
  by_cases h : 9223372036854775807 < n
  · go_enter Tryd.func77, Tryd.ntmps77
    go_wp2_with (go_at_call 76; refine (bound_any _ _).mono ?_; rintro e w' ⟨rfl, rfl⟩)
    go_ret
    exact ⟨ret_int (held_far b n h), rfl⟩
  · cases b
    all_goals
      go_enter Tryd.func77, Tryd.ntmps77
      go_wp2
      go_ret
      first | exact ⟨ret_int (held_up n (by omega)), rfl⟩ | exact ⟨ret_int (held_down n (by omega)), rfl⟩
theorem nearest_any (q r d : Nat) (hq : q < 18446744073709551615) (hr : r < d) (hd : d ≤ 9223372036854775808) (w : World) :
    Calls Tryd.prog 78 #[.int .u64 q, .int .u64 r, .int .u64 d] w fun e w' => e = .returned (.int .u64 (nr q r d : Nat)) ∧ w' = w := by
  go_enter Tryd.func78, Tryd.ntmps78
  go_wp2
  all_goals
    go_ret
    refine ⟨ret_int ?_, rfl⟩
    try simp only [beq_iff_eq, beq_eq_false_iff_ne, ne_eq] at *
    unfold nr
    split <;> omega
theorem mul64_at (x y hi lo : Nat) (hx : x < 18446744073709551616) (hy : y < 18446744073709551616) (e1 : hi = x * y / 18446744073709551616) (e2 : lo = x * y % 18446744073709551616) (w : World) :
    Calls Tryd.prog 81 #[.int .u64 x, .int .u64 y] w fun e w' => e = .returned (.tuple #[.int .u64 hi, .int .u64 lo]) ∧ w' = w := by
  subst e1 e2
  exact Tryd.bits_Mul64 x y hx hy w
end Go.Proofs.YthcfeiddbffcfaaDoor.Fx
