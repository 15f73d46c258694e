/- What math/bits.Div64 hands back, wherever the quotient fits: the quotient and the rest. What fix.Div hands back, for all numbers. -/
import Derived.Test.YtknadgffflhlgaaFix
import Derived.Test.YtknadgffflhlgaaKnuth
import Derived.BigQuiet
import Derived.Deep.QuietTactic
namespace Go.Proofs.Ytknadgffflhlgaa.Fx
open Go.RowKit Kn
set_option linter.unusedVariables false
theorem lz_at (y : Int) (s : Nat) (h0 : 0 ≤ y) (h1 : y < 18446744073709551616) (e : (s : Int) = 64 - (Lib.bitLen y.toNat : Int)) (w : World) :
    Calls Try.prog 59 #[.int .u64 y] w fun e w' => e = .returned (.int .i64 s) ∧ w' = w := by
  rw [e]
  exact Try.bits_LeadingZeros64 y w (by omega) (by omega)
theorem ret_two {a b c d : Int} (h1 : a = c) (h2 : b = d) : Ending.returned (.tuple #[.int .u64 a, .int .u64 b]) = .returned (.tuple #[.int .u64 c, .int .u64 d]) := by rw [h1, h2]
set_option maxHeartbeats 4000000 in
set_option maxRecDepth 20000 in
theorem div64_core (s : Nat) (hi lo y Y Y1 Y0 U L V1 V0 Q1 R1 Q0 A B : Int) (hh : hi < y) (h0 : 0 < hi) (hy : y < 18446744073709551616) (hl : 0 ≤ lo ∧ lo < 18446744073709551616) (hs : s < 64)
    (e : Hid ((s : Int) = 64 - (Lib.bitLen y.toNat : Int)))
    (e1 : IntKind.u64.wrap (y * 2 ^ s) = Y) (hY : 9223372036854775808 ≤ Y ∧ Y < 18446744073709551616)
    (e2 : Y / 4294967296 = Y1) (hY1 : 2147483648 ≤ Y1 ∧ Y1 < 4294967296)
    (e3 : bits .and .u64 Y 4294967295 = Y0) (hY0 : 0 ≤ Y0 ∧ Y0 < 4294967296) (hYY : Hid (Y = Y1 * 4294967296 + Y0))
    (e4 : bits .or .u64 (IntKind.u64.wrap (hi * 2 ^ s)) (lo / 2 ^ (64 - s)) = U) (hU : 0 ≤ U ∧ U < Y)
    (e5 : IntKind.u64.wrap (lo * 2 ^ s) = L) (hL : 0 ≤ L ∧ L < 18446744073709551616)
    (e6 : L / 4294967296 = V1) (hV1 : 0 ≤ V1 ∧ V1 < 4294967296)
    (e7 : bits .and .u64 L 4294967295 = V0) (hV0 : 0 ≤ V0 ∧ V0 < 4294967296)
    (hQ1 : 0 ≤ Q1 ∧ Q1 < 4294967296) (hq1 : Hid (Q1 = dig U V1 Y))
    (e9 : IntKind.u64.wrap (IntKind.u64.wrap (IntKind.u64.wrap (U * 4294967296) + V1) - IntKind.u64.wrap (Q1 * Y)) = R1) (hR1 : 0 ≤ R1 ∧ R1 < Y)
    (hQ0 : 0 ≤ Q0 ∧ Q0 < 4294967296) (hq0 : Hid (Q0 = dig R1 V0 Y))
    (eA : Hid (Q1 * 4294967296 + Q0 = A)) (eB : Hid (IntKind.u64.wrap (IntKind.u64.wrap (IntKind.u64.wrap (R1 * 4294967296) + V0) - IntKind.u64.wrap (Q0 * Y)) / 2 ^ s = B))
    (w : World) :
    Calls Try.prog 39 #[.int .u64 hi, .int .u64 lo, .int .u64 y] w fun e w' => e = .returned (.tuple #[.int .u64 A, .int .u64 B]) ∧ w' = w := by
  go_enter Try.func39, Try.ntmps39
  go_wp2_with (go_at_call 59; refine (lz_at y s (by omega) hy e.out _).mono ?_; rintro e w' ⟨rfl, rfl⟩)
  clear e1 e2 e3 e4 e5 e6 e7
  go_loop [15, 16] (fun q r => ∃ qn rn : Int, q = .int .u64 qn ∧ r = .int .u64 rn ∧ Hid (qn * Y1 + rn = U) ∧ Q1 ≤ qn ∧ qn ≤ 4294967297 ∧ 0 ≤ rn ∧ rn < 4294967296) (fun q _ => (intOf q).toNat)
  case atStart =>
    have a := Int.emod_nonneg U (show Y1 ≠ 0 by omega)
    have b := Int.emod_lt_of_pos U (show 0 < Y1 by omega)
    exact ⟨U / Y1, U % Y1, rfl, by rw [start_rest (by omega) (by omega) (by omega) (by omega)], Kn.start_eq, by rw [hq1.out]; exact dig_start (by omega) (by omega) (by omega) hYY.out (by omega) (by omega) (by omega), dig_ub (by omega) (by omega) hYY.out (by omega), a, by omega⟩
  case round =>
    obtain ⟨q, r, rfl, rfl, hqr, hqQ, hqb, hr0, hrb⟩ := hrel
    clear ‹w' = w'›
    have hm0 : 0 ≤ q * Y0 := Int.mul_nonneg (by omega) (by omega)
    by_cases hgo : (4294967296 ≤ q ∨ 4294967296 * r + V1 < q * Y0) ∧ r + Y1 < 4294967296
    · obtain ⟨hc, hrr⟩ := hgo
      have hlt : Q1 < q := by rw [hq1.out]; exact dig_more q r (by omega) (by omega) (by omega) hYY.out hqr.out hc
      have hq' : Hid ((q - 1) * Y1 + (r + Y1) = U) := by have := hqr.out; show (q - 1) * Y1 + (r + Y1) = U; rw [Int.sub_mul]; omega
      by_cases hb : 4294967296 ≤ q
      · clear hc
        go_wp2
        go_round
        case rel => exact ⟨q - 1, r + Y1, rfl, rfl, hq', by omega, by omega, by omega, by omega⟩
        case measure => simp [intOf]; omega
      · have hm1 : q * Y0 ≤ 4294967295 * 4294967295 := Int.mul_le_mul (by omega) (by omega) (by omega) (by omega)
        have hc' : 4294967296 * r + V1 < q * Y0 := by omega
        clear hc
        go_wp2
        go_round
        case rel => exact ⟨q - 1, r + Y1, rfl, rfl, hq', by omega, by omega, by omega, by omega⟩
        case measure => simp [intOf]; omega
    · have hex : (4294967296 ≤ q ∧ 4294967296 ≤ r + Y1 ∧ q - 1 = Q1) ∨ (q < 4294967296 ∧ 4294967296 * r + V1 < q * Y0 ∧ 4294967296 ≤ r + Y1 ∧ q - 1 = Q1) ∨ (q < 4294967296 ∧ q * Y0 ≤ 4294967296 * r + V1 ∧ 0 ≤ r ∧ q = Q1) := by
        by_cases hc : 4294967296 ≤ q ∨ 4294967296 * r + V1 < q * Y0
        · have hlt : Q1 < q := by rw [hq1.out]; exact dig_more q r (by omega) (by omega) (by omega) hYY.out hqr.out hc
          have hp : 0 ≤ q - 1 := by omega
          have hq : q - 1 = Q1 := by
            rw [hq1.out] at hlt ⊢
            exact dig_far (q - 1) (r + Y1) (by omega) (by omega) (by omega) (by omega) hYY.out (by have := hqr.out; rw [Int.sub_mul]; omega) (by omega) hp (by omega) (by omega)
          omega
        · have hq : q = Q1 := by
            rw [hq1.out] at hqQ ⊢
            exact dig_stop q r (by omega) hYY.out hqr.out (by omega) hqQ
          omega
      clear hgo
      have hm1 : q < 4294967296 → q * Y0 ≤ 4294967295 * 4294967295 := fun h => Int.mul_le_mul (by omega) (by omega) (by omega) (by omega)
      clear hqr hqQ
      have hx2 : ∀ q r : Int, Hid (q * Y1 + r = R1) → 4294967296 ≤ q ∨ 4294967296 * r + V0 < q * Y0 → Q0 < q := fun q r h hc => by rw [hq0.out]; exact dig_more q r (by omega) (by omega) (by omega) hYY.out h.out hc
      rcases hex with ⟨x1, x2, x3⟩ | ⟨x1, x2, x3, x4⟩ | ⟨x1, x2, x3, rfl⟩
      all_goals
        have hm2 : q * Y0 ≤ 4294967295 * 4294967295 ∨ 4294967296 ≤ q := by
          by_cases hz : q < 4294967296
          · exact Or.inl (hm1 hz)
          · omega
        clear hm1
        go_wp2
        go_loop [18, 16] (fun q r => ∃ qn rn : Int, q = .int .u64 qn ∧ r = .int .u64 rn ∧ Hid (qn * Y1 + rn = R1) ∧ Q0 ≤ qn ∧ qn ≤ 4294967297 ∧ 0 ≤ rn ∧ rn < 4294967296) (fun q _ => (intOf q).toNat)
        case atStart =>
          have a := Int.emod_nonneg R1 (show Y1 ≠ 0 by omega)
          have b := Int.emod_lt_of_pos R1 (show 0 < Y1 by omega)
          exact ⟨R1 / Y1, R1 % Y1, rfl, by rw [start_rest (by omega) (by omega) (by omega) (by omega)], Kn.start_eq, by rw [hq0.out]; exact dig_start (by omega) (by omega) (by omega) hYY.out (by omega) (by omega) (by omega), dig_ub (by omega) (by omega) hYY.out (by omega), a, by omega⟩
        case round =>
          clear x1 x2 x3 hm0 hm2 hqb hr0 hrb
          try clear x4
          obtain ⟨p, t, rfl, rfl, hpt, hpQ, hpb, ht0, htb⟩ := hrel
          clear ‹w' = w'›
          have hm0 : 0 ≤ p * Y0 := Int.mul_nonneg (by omega) (by omega)
          by_cases hgo : (4294967296 ≤ p ∨ 4294967296 * t + V0 < p * Y0) ∧ t + Y1 < 4294967296
          · obtain ⟨hc, hrr⟩ := hgo
            have hlt : Q0 < p := hx2 p t hpt hc
            have hp' : Hid ((p - 1) * Y1 + (t + Y1) = R1) := by have := hpt.out; show (p - 1) * Y1 + (t + Y1) = R1; rw [Int.sub_mul]; omega
            by_cases hb : 4294967296 ≤ p
            · clear hc
              go_wp2
              go_round
              case rel => exact ⟨p - 1, t + Y1, rfl, rfl, hp', by omega, by omega, by omega, by omega⟩
              case measure => simp [intOf]; omega
            · have hm1 : p * Y0 ≤ 4294967295 * 4294967295 := Int.mul_le_mul (by omega) (by omega) (by omega) (by omega)
              have hc' : 4294967296 * t + V0 < p * Y0 := by omega
              clear hc
              go_wp2
              go_round
              case rel => exact ⟨p - 1, t + Y1, rfl, rfl, hp', by omega, by omega, by omega, by omega⟩
              case measure => simp [intOf]; omega
          · have hex : (4294967296 ≤ p ∧ 4294967296 ≤ t + Y1 ∧ p - 1 = Q0) ∨ (p < 4294967296 ∧ 4294967296 * t + V0 < p * Y0 ∧ 4294967296 ≤ t + Y1 ∧ p - 1 = Q0) ∨ (p < 4294967296 ∧ p * Y0 ≤ 4294967296 * t + V0 ∧ 0 ≤ t ∧ p = Q0) := by
              by_cases hc : 4294967296 ≤ p ∨ 4294967296 * t + V0 < p * Y0
              · have hlt : Q0 < p := hx2 p t hpt hc
                have hp : 0 ≤ p - 1 := by omega
                have hq : p - 1 = Q0 := by
                  rw [hq0.out] at hlt ⊢
                  exact dig_far (p - 1) (t + Y1) (by omega) (by omega) (by omega) (by omega) hYY.out (by have := hpt.out; rw [Int.sub_mul]; omega) (by omega) hp (by omega) (by omega)
                omega
              · have hq : p = Q0 := by
                  rw [hq0.out] at hpQ ⊢
                  exact dig_stop p t (by omega) hYY.out hpt.out (by omega) hpQ
                omega
            clear hgo
            have hm1 : p < 4294967296 → p * Y0 ≤ 4294967295 * 4294967295 := fun h => Int.mul_le_mul (by omega) (by omega) (by omega) (by omega)
            clear hpt hpQ hx2
            rcases hex with ⟨x1, x2, x3⟩ | ⟨x1, x2, x3, x4⟩ | ⟨x1, x2, x3, rfl⟩
            all_goals
              have hm2 : p * Y0 ≤ 4294967295 * 4294967295 ∨ 4294967296 ≤ p := by
                by_cases hz : p < 4294967296
                · exact Or.inl (hm1 hz)
                · omega
              clear hm1
              go_wp2
              go_ret2
              exact ⟨ret_two eA.out eB.out, rfl⟩
/-- Wherever the quotient fits one word, and the dividend's high word is not 0. -/
theorem div64_big (hi lo y : Int) (hh : hi < y) (h0 : 0 < hi) (hy : y < 18446744073709551616) (hl : 0 ≤ lo ∧ lo < 18446744073709551616) (w : World) :
    Calls Try.prog 39 #[.int .u64 hi, .int .u64 lo, .int .u64 y] w fun e w' => e = .returned (.tuple #[.int .u64 ((hi * 18446744073709551616 + lo) / y), .int .u64 ((hi * 18446744073709551616 + lo) % y)]) ∧ w' = w := by
  obtain ⟨s, hs, es, hY⟩ := shift_of y (by omega) hy
  obtain ⟨j1, j2, j3, j4, j5⟩ := shifted hi lo y s hh h0 (by omega) hs hY hl
  have hYY : (y * 2 ^ s) = (y * 2 ^ s) / 4294967296 * 4294967296 + (y * 2 ^ s) % 4294967296 := by omega
  generalize eY : y * 2 ^ s = Y at *
  generalize eU : hi * 2 ^ s + lo / 2 ^ (64 - s) = U at *
  generalize eL : lo * 2 ^ s % 18446744073709551616 = L at *
  have hL : 0 ≤ L ∧ L < 18446744073709551616 := by omega
  have hd1 := dig_nonneg (Y := Y) (u := U) (v := L / 4294967296) (by omega) (by omega) (by omega)
  have hd2 := dig_lt (Y := Y) (u := U) (v := L / 4294967296) (by omega) (by omega) (by omega)
  have hr1 := Int.emod_nonneg (U * 4294967296 + L / 4294967296) (show Y ≠ 0 by omega)
  have hr2 := Int.emod_lt_of_pos (U * 4294967296 + L / 4294967296) (show 0 < Y by omega)
  have hf1 := dig_eq U (L / 4294967296) Y
  have hm1 := dig_rem (Y := Y) (u := U) (v := L / 4294967296) (by omega) (by omega)
  generalize eR : (U * 4294967296 + L / 4294967296) % Y = R at *
  have hd3 := dig_nonneg (Y := Y) (u := R) (v := L % 4294967296) (by omega) (by omega) (by omega)
  have hd4 := dig_lt (Y := Y) (u := R) (v := L % 4294967296) (by omega) (by omega) (by omega)
  have hs1 := Int.emod_nonneg (R * 4294967296 + L % 4294967296) (show Y ≠ 0 by omega)
  have hs2 := Int.emod_lt_of_pos (R * 4294967296 + L % 4294967296) (show 0 < Y by omega)
  have hf2 := dig_eq R (L % 4294967296) Y
  have hm2 := dig_rem (Y := Y) (u := R) (v := L % 4294967296) (by omega) (by omega)
  have hP : (0 : Int) < 2 ^ s := Int.pow_pos (by decide)
  obtain ⟨f1, f2⟩ := whole (hi * 18446744073709551616 + lo) y (2 ^ s) Y U L (dig U (L / 4294967296) Y) (dig R (L % 4294967296) Y) R ((R * 4294967296 + L % 4294967296) % Y) hP eY.symm (by omega) hs1 hs2 j5 hf1 hf2
  exact div64_core s hi lo y Y (Y / 4294967296) (Y % 4294967296) U L (L / 4294967296) (L % 4294967296) (dig U (L / 4294967296) Y) R (dig R (L % 4294967296) Y) _ _ hh h0 hy hl hs es
    (by rw [eY]; exact wrap_id Y (by omega) (by omega)) hY rfl (by omega) (maskI Y (by omega) (by omega)) (by omega) hYY j1 (by omega) j2 hL rfl (by omega) (maskI L (by omega) (by omega)) (by omega) ⟨hd1, hd2⟩ rfl hm1 (by omega) ⟨hd3, hd4⟩ rfl f1.symm (by show _ / _ = _; rw [hm2, f2]) w
end Go.Proofs.Ytknadgffflhlgaa.Fx
namespace Go.Proofs.Ytknadgffflhlgaa.Fx
open Go.RowKit Kn
set_option linter.unusedVariables false
theorem div64_small (lo y : Int) (hy0 : 0 < y) (hy : y < 18446744073709551616) (hl : 0 ≤ lo ∧ lo < 18446744073709551616) (w : World) :
    Calls Try.prog 39 #[.int .u64 0, .int .u64 lo, .int .u64 y] w fun e w' => e = .returned (.tuple #[.int .u64 (lo / y), .int .u64 (lo % y)]) ∧ ∃ n, w' = w.drewN n := by
  go_enter Try.func39, Try.ntmps39
  go_wp2_with fail
  go_quiet (fail)
  go_wp2
  go_ret2
  exact ⟨rfl, _, rfl⟩
theorem div64_any (hi lo y : Int) (hi0 : 0 ≤ hi) (hh : hi < y) (hy : y < 18446744073709551616) (hl : 0 ≤ lo ∧ lo < 18446744073709551616) (w : World) :
    Calls Try.prog 39 #[.int .u64 hi, .int .u64 lo, .int .u64 y] w fun e w' => e = .returned (.tuple #[.int .u64 ((hi * 18446744073709551616 + lo) / y), .int .u64 ((hi * 18446744073709551616 + lo) % y)]) ∧ ∃ n, w' = w.drewN n := by
  by_cases h : hi = 0
  · subst h
    rw [Int.zero_mul, Int.zero_add]
    exact div64_small lo y hh hy hl w
  · exact (div64_big hi lo y hh (by omega) hy hl w).mono fun e w' ⟨h1, h2⟩ => ⟨h1, 0, h2⟩
theorem div64_at (x y q r : Int) (hx : 0 ≤ x) (hx' : x ≤ 9223372036854775808) (hy : 0 < y) (hy' : y ≤ 9223372036854775808) (hh : x / 4294967296 < y) (eq : x * 4294967296 / y = q) (er : x * 4294967296 % y = r) (w : World) :
    Calls Try.prog 39 #[.int .u64 (x / 4294967296), .int .u64 (IntKind.u64.wrap (x * 4294967296)), .int .u64 y] w fun e w' => e = .returned (.tuple #[.int .u64 q, .int .u64 r]) ∧ ∃ n, w' = w.drewN n := by
  have c := div64_any (x / 4294967296) (x * 4294967296 % 18446744073709551616) y (by omega) hh (by omega) (by omega) w
  rw [show x / 4294967296 * 18446744073709551616 + x * 4294967296 % 18446744073709551616 = x * 4294967296 by omega, eq, er] at c
  rw [IntKind.wrap_u64]
  exact c
theorem size_int (a x : Int) (ha : InR a) (hx : (a.natAbs : Int) = x) (w : World) :
    Calls Try.prog 43 #[.int .i64 a] w fun e w' => e = .returned (.int .u64 x) ∧ w' = w := by
  subst hx
  exact size_any a _ ha rfl w
theorem nearest_int (q r d : Int) (m : Nat) (hq0 : 0 ≤ q) (hq : q < 18446744073709551615) (hr0 : 0 ≤ r) (hr : r < d) (hd : d ≤ 9223372036854775808) (hm : nr q.toNat r.toNat d.toNat = m) (w : World) :
    Calls Try.prog 57 #[.int .u64 q, .int .u64 r, .int .u64 d] w fun e w' => e = .returned (.int .u64 m) ∧ w' = w := by
  subst hm
  obtain ⟨q, rfl⟩ := Int.eq_ofNat_of_zero_le hq0
  obtain ⟨r, rfl⟩ := Int.eq_ofNat_of_zero_le hr0
  obtain ⟨d, rfl⟩ := Int.eq_ofNat_of_zero_le (show 0 ≤ d by omega)
  exact nearest_any q r d (by omega) (by omega) (by omega) w
theorem over_any (a : Int) (w : World) :
    Calls Try.prog 56 #[.int .i64 a] w fun e w' => e = .returned (.int .i64 (overI a)) ∧ w' = w := by
  by_cases h : a = 0
  · subst h
    go_enter Try.func56, Try.ntmps56
    go_wp2
    go_ret
    exact ⟨rfl, rfl⟩
  · have h' : (a == 0) = false := by simpa using h
    go_enter Try.func56, Try.ntmps56
    go_wp2_with (go_at_call 41; refine (bound_any _ _).mono ?_; rintro e w' ⟨rfl, rfl⟩)
    go_ret
    exact ⟨ret_int (overI_ne a h), rfl⟩
theorem div_any (a b : Int) (ha : InR a) (hb : InR b) (w : World) :
    Calls Try.prog 34 #[.int .i64 a, .int .i64 b] w fun e w' => e = .returned (.int .i64 (divI a b)) ∧ ∃ n, w' = w.drewN n := by
  by_cases hb0 : b = 0
  · subst hb0
    go_enter Try.func34, Try.ntmps34
    go_wp2_with (go_at_call 56; refine (over_any _ _).mono ?_; rintro e w' ⟨rfl, rfl⟩)
    go_ret
    exact ⟨rfl, 0, rfl⟩
  · have hb' : (b == 0) = false := by simpa using hb0
    obtain ⟨x, ex⟩ : ∃ x : Int, (a.natAbs : Int) = x := ⟨_, rfl⟩
    obtain ⟨y, ey⟩ : ∃ y : Int, (b.natAbs : Int) = y := ⟨_, rfl⟩
    have hx : 0 ≤ x ∧ x ≤ 9223372036854775808 := by unfold InR at ha; omega
    have hy : 0 < y ∧ y ≤ 9223372036854775808 := by unfold InR at hb; omega
    have E : Hid ((a.natAbs : Int) = x ∧ (b.natAbs : Int) = y ∧ b ≠ 0) := ⟨ex, ey, hb0⟩
    clear ex ey hb0
    by_cases hf : y ≤ x / 2147483648
    all_goals
      go_enter Try.func34, Try.ntmps34
      go_wp2_with fail
      refine (size_int a x ha E.out.1 _).mono ?_
      rintro e w' ⟨rfl, rfl⟩
      go_wp2_with fail
      refine (size_int b y hb E.out.2.1 _).mono ?_
      rintro e w' ⟨rfl, rfl⟩
      go_wp2_with fail
    · refine (bound_any _ _).mono ?_
      rintro e w' ⟨rfl, rfl⟩
      go_wp2
      go_ret
      exact ⟨ret_int (div_far a b x y E.out.1 E.out.2.1 E.out.2.2 hy.1 hf), 0, rfl⟩
    · obtain ⟨q, eq⟩ : ∃ q : Int, x * 4294967296 / y = q := ⟨_, rfl⟩
      obtain ⟨r, er⟩ : ∃ r : Int, x * 4294967296 % y = r := ⟨_, rfl⟩
      have hr0 : 0 ≤ r := by rw [← er]; exact Int.emod_nonneg _ (by omega)
      have hr1 : r < y := by rw [← er]; exact Int.emod_lt_of_pos _ (by omega)
      have hq0 : 0 ≤ q := by rw [← eq]; exact Int.ediv_nonneg (by omega) (by omega)
      have hq1 : q < 9223372036854775808 := by rw [← eq]; exact Int.ediv_lt_of_lt_mul (by omega) (by omega)
      refine (div64_at x y q r hx.1 hx.2 hy.1 hy.2 (by omega) eq er _).mono ?_
      rintro e w2 ⟨rfl, n, rfl⟩
      obtain ⟨m, em⟩ : ∃ m : Nat, nr q.toNat r.toNat y.toNat = m := ⟨_, rfl⟩
      have hm : m ≤ 9223372036854775808 := by
        have := nr_le q.toNat r.toNat y.toNat
        omega
      have E2 : Hid (x * 4294967296 / y = q ∧ x * 4294967296 % y = r ∧ nr q.toNat r.toNat y.toNat = m) := ⟨eq, er, em⟩
      clear eq er em
      go_wp2_with fail
      refine (nearest_int q r y m hq0 (by omega) hr0 hr1 hy.2 E2.out.2.2 _).mono ?_
      rintro e w3 ⟨rfl, rfl⟩
      go_wp2_with fail
      refine (held_any _ m (by omega) _).mono ?_
      rintro e w3 ⟨rfl, rfl⟩
      go_wp2
      go_ret
      refine ⟨ret_int (div_near a b x y m E.out.1 E.out.2.1 E.out.2.2 ?_), n, rfl⟩
      rw [E2.out.1, E2.out.2.1, E2.out.2.2]
end Go.Proofs.Ytknadgffflhlgaa.Fx
