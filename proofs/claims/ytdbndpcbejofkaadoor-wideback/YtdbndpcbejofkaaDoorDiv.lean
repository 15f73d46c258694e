/- What fix.Div hands back, for all numbers. -/
import Derived.Test.YtdbndpcbejofkaaDoorDiv64
namespace Go.Proofs.YtdbndpcbejofkaaDoor.Fx
open Go.RowKit Kn
set_option linter.unusedVariables false
theorem div64_small (lo y : Int) (hy0 : 0 < y) (hy : y < 18446744073709551616) (hl : 0 ≤ lo ∧ lo < 18446744073709551616) (w : World) :
    Calls Tryd.prog 39 #[.int .u64 0, .int .u64 lo, .int .u64 y] w fun e w' => e = .returned (.tuple #[.int .u64 (lo / y), .int .u64 (lo % y)]) ∧ ∃ n, w' = w.drewN n := by
  go_enter Tryd.func39, Tryd.ntmps39
  go_wp2_with fail
  go_quiet (fail)
  go_wp2
  go_ret2
  exact ⟨rfl, _, rfl⟩
theorem div64_any (hi lo y : Int) (hi0 : 0 ≤ hi) (hh : hi < y) (hy : y < 18446744073709551616) (hl : 0 ≤ lo ∧ lo < 18446744073709551616) (w : World) :
    Calls Tryd.prog 39 #[.int .u64 hi, .int .u64 lo, .int .u64 y] w fun e w' => e = .returned (.tuple #[.int .u64 ((hi * 18446744073709551616 + lo) / y), .int .u64 ((hi * 18446744073709551616 + lo) % y)]) ∧ ∃ n, w' = w.drewN n := by
  by_cases h : hi = 0
  · subst h
    rw [Int.zero_mul, Int.zero_add]
    exact div64_small lo y hh hy hl w
  · exact (div64_big hi lo y hh (by omega) hy hl w).mono fun e w' ⟨h1, h2⟩ => ⟨h1, 0, h2⟩
theorem div64_at (x y q r : Int) (hx : 0 ≤ x) (hx' : x ≤ 9223372036854775808) (hy : 0 < y) (hy' : y ≤ 9223372036854775808) (hh : x / 4294967296 < y) (eq : x * 4294967296 / y = q) (er : x * 4294967296 % y = r) (w : World) :
    Calls Tryd.prog 39 #[.int .u64 (x / 4294967296), .int .u64 (IntKind.u64.wrap (x * 4294967296)), .int .u64 y] w fun e w' => e = .returned (.tuple #[.int .u64 q, .int .u64 r]) ∧ ∃ n, w' = w.drewN n := by
  have c := div64_any (x / 4294967296) (x * 4294967296 % 18446744073709551616) y (by omega) hh (by omega) (by omega) w
  rw [show x / 4294967296 * 18446744073709551616 + x * 4294967296 % 18446744073709551616 = x * 4294967296 by omega, eq, er] at c
  rw [IntKind.wrap_u64]
  exact c
theorem size_int (a x : Int) (ha : InR a) (hx : (a.natAbs : Int) = x) (w : World) :
    Calls Tryd.prog 63 #[.int .i64 a] w fun e w' => e = .returned (.int .u64 x) ∧ w' = w := by
  subst hx
  exact size_any a _ ha rfl w
theorem nearest_int (q r d : Int) (m : Nat) (hq0 : 0 ≤ q) (hq : q < 18446744073709551615) (hr0 : 0 ≤ r) (hr : r < d) (hd : d ≤ 9223372036854775808) (hm : nr q.toNat r.toNat d.toNat = m) (w : World) :
    Calls Tryd.prog 66 #[.int .u64 q, .int .u64 r, .int .u64 d] w fun e w' => e = .returned (.int .u64 m) ∧ w' = w := by
  subst hm
  obtain ⟨q, rfl⟩ := Int.eq_ofNat_of_zero_le hq0
  obtain ⟨r, rfl⟩ := Int.eq_ofNat_of_zero_le hr0
  obtain ⟨d, rfl⟩ := Int.eq_ofNat_of_zero_le (show 0 ≤ d by omega)
  exact nearest_any q r d (by omega) (by omega) (by omega) w
theorem over_any (a : Int) (w : World) :
    Calls Tryd.prog 62 #[.int .i64 a] w fun e w' => e = .returned (.int .i64 (overI a)) ∧ w' = w := by
  by_cases h : a = 0
  · subst h
    go_enter Tryd.func62, Tryd.ntmps62
    go_wp2
    go_ret
    exact ⟨rfl, rfl⟩
  · have h' : (a == 0) = false := by simpa using h
    go_enter Tryd.func62, Tryd.ntmps62
    go_wp2_with (go_at_call 64; refine (bound_any _ _).mono ?_; rintro e w' ⟨rfl, rfl⟩)
    go_ret
    exact ⟨ret_int (overI_ne a h), rfl⟩
theorem div_any (a b : Int) (ha : InR a) (hb : InR b) (w : World) :
    Calls Tryd.prog 36 #[.int .i64 a, .int .i64 b] w fun e w' => e = .returned (.int .i64 (divI a b)) ∧ ∃ n, w' = w.drewN n := by
  by_cases hb0 : b = 0
  · subst hb0
    go_enter Tryd.func36, Tryd.ntmps36
    go_wp2_with (go_at_call 62; refine (over_any _ _).mono ?_; rintro e w' ⟨rfl, rfl⟩)
    go_ret
    exact ⟨rfl, 0, rfl⟩
  · have hb' : (b == 0) = false := by simpa using hb0
    obtain ⟨x, ex⟩ : ∃ x : Int, (a.natAbs : Int) = x := ⟨_, rfl⟩
    obtain ⟨y, ey⟩ : ∃ y : Int, (b.natAbs : Int) = y := ⟨_, rfl⟩
    have hx : 0 ≤ x ∧ x ≤ 9223372036854775808 := by unfold InR at ha; omega
    have hy : 0 < y ∧ y ≤ 9223372036854775808 := by unfold InR at hb; omega
    have E : Hid ((a.natAbs : Int) = x ∧ (b.natAbs : Int) = y ∧ b ≠ 0) := ⟨ex, ey, hb0⟩
    clear ex ey hb0
    by_cases hf : y ≤ x / 2147483648
    all_goals
      go_enter Tryd.func36, Tryd.ntmps36
      go_wp2_with fail
      refine (size_int a x ha E.out.1 _).mono ?_
      rintro e w' ⟨rfl, rfl⟩
      go_wp2_with fail
      refine (size_int b y hb E.out.2.1 _).mono ?_
      rintro e w' ⟨rfl, rfl⟩
      go_wp2_with fail
    · refine (bound_any _ _).mono ?_
      rintro e w' ⟨rfl, rfl⟩
      go_wp2
      go_ret
      exact ⟨ret_int (div_far a b x y E.out.1 E.out.2.1 E.out.2.2 hy.1 hf), 0, rfl⟩
    · obtain ⟨q, eq⟩ : ∃ q : Int, x * 4294967296 / y = q := ⟨_, rfl⟩
      obtain ⟨r, er⟩ : ∃ r : Int, x * 4294967296 % y = r := ⟨_, rfl⟩
      have hr0 : 0 ≤ r := by rw [← er]; exact Int.emod_nonneg _ (by omega)
      have hr1 : r < y := by rw [← er]; exact Int.emod_lt_of_pos _ (by omega)
      have hq0 : 0 ≤ q := by rw [← eq]; exact Int.ediv_nonneg (by omega) (by omega)
      have hq1 : q < 9223372036854775808 := by rw [← eq]; exact Int.ediv_lt_of_lt_mul (by omega) (by omega)
      refine (div64_at x y q r hx.1 hx.2 hy.1 hy.2 (by omega) eq er _).mono ?_
      rintro e w2 ⟨rfl, n, rfl⟩
      obtain ⟨m, em⟩ : ∃ m : Nat, nr q.toNat r.toNat y.toNat = m := ⟨_, rfl⟩
      have hm : m ≤ 9223372036854775808 := by
        have := nr_le q.toNat r.toNat y.toNat
        omega
      have E2 : Hid (x * 4294967296 / y = q ∧ x * 4294967296 % y = r ∧ nr q.toNat r.toNat y.toNat = m) := ⟨eq, er, em⟩
      clear eq er em
      go_wp2_with fail
      refine (nearest_int q r y m hq0 (by omega) hr0 hr1 hy.2 E2.out.2.2 _).mono ?_
      rintro e w3 ⟨rfl, rfl⟩
      go_wp2_with fail
      refine (held_any _ m (by omega) _).mono ?_
      rintro e w3 ⟨rfl, rfl⟩
      go_wp2
      go_ret
      refine ⟨ret_int (div_near a b x y m E.out.1 E.out.2.1 E.out.2.2 ?_), n, rfl⟩
      rw [E2.out.1, E2.out.2.1, E2.out.2.2]
end Go.Proofs.YtdbndpcbejofkaaDoor.Fx
