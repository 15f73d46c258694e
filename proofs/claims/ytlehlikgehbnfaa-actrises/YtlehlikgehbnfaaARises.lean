/- ActRises: a line but size never falls; ramp, hold and step stay within their bounds. -/
import Derived.Test.YtlehlikgehbnfaaActW
namespace Go.Proofs.Ytlehlikgehbnfaa.Wd
open Go.RowKit Fx
set_option linter.unusedVariables false
set_option linter.unusedSimpArgs false
set_option maxHeartbeats 4000000 in
theorem rises_walk (w : World) (k a b : Int) (hk : -9223372036854775808 ≤ k ∧ k ≤ 9223372036854775807) (ha : -9223372036854775808 ≤ a ∧ a ≤ 9223372036854775807) (hb : -9223372036854775808 ≤ b ∧ b ≤ 9223372036854775807) :
    Calls Try.prog 6 #[.int .i64 k, .int .i64 a, .int .i64 b] w fun e w' => e = .returned (.bool true) ∧ Below w.heap.size w w' := by
  by_cases k1 : k < 1
  · clear hk ha hb
    go_enter Try.func6, Try.ntmps6
    go_wp2_with fail
    refine (awake9_any w).mono ?_
    rintro e w0 ⟨rfl, hB0⟩
    have HB0 : Hid (Below w.heap.size w w0) := hB0
    clear hB0
    go_wp2
    go_ret
    exact ⟨rfl, HB0.out⟩
  by_cases k2 : 5 < k
  · have k3 : 1 ≤ k := by omega
    clear hk ha hb k1
    go_enter Try.func6, Try.ntmps6
    go_wp2_with fail
    refine (awake9_any w).mono ?_
    rintro e w0 ⟨rfl, hB0⟩
    have HB0 : Hid (Below w.heap.size w w0) := hB0
    clear hB0
    go_wp2
    go_ret
    exact ⟨rfl, HB0.out⟩
  by_cases k4 : k = 4
  · subst k4
    clear hk ha hb k1 k2
    go_enter Try.func6, Try.ntmps6
    go_wp2_with fail
    refine (awake9_any w).mono ?_
    rintro e w0 ⟨rfl, hB0⟩
    have HB0 : Hid (Below w.heap.size w w0) := hB0
    clear hB0
    go_wp2
    go_ret
    exact ⟨rfl, HB0.out⟩
  by_cases hab : b < a
  · have k3 : 1 ≤ k := by omega
    have k5 : k ≤ 5 := by omega
    have k6 : (k == 4) = false := by simpa using k4
    clear hk ha hb k1 k2 k4
    go_enter Try.func6, Try.ntmps6
    go_wp2_with fail
    refine (awake9_any w).mono ?_
    rintro e w0 ⟨rfl, hB0⟩
    have HB0 : Hid (Below w.heap.size w w0) := hB0
    clear hB0
    go_wp2
    go_ret
    exact ⟨rfl, HB0.out⟩
  have hab' : a ≤ b := by omega
  obtain ⟨x, ex⟩ : ∃ x, bendI k a = x := ⟨_, rfl⟩
  obtain ⟨y, ey⟩ : ∃ y, bendI k b = y := ⟨_, rfl⟩
  have c1 := of_ok ⟨by omega, by omega⟩ ha ex
  have c2 := of_ok ⟨by omega, by omega⟩ hb ey
  have hxy : x ≤ y := by rw [← ex, ← ey]; exact bend_mono k4 hab'
  have : k = 1 ∨ k = 2 ∨ k = 3 ∨ k = 5 := by omega
  rcases this with rfl | rfl | rfl | rfl
  · have h0 : 0 ≤ x := by rw [← ex]; exact bend_low1 a
    clear ex ey hk ha hb k1 k2 k4 hab
    go_enter Try.func6, Try.ntmps6
    go_wp2_with fail
    refine (awake9_any w).mono ?_
    rintro e w0 ⟨rfl, hB0⟩
    have HB0 : Hid (Below w.heap.size w w0) := hB0
    clear hB0
    go_wp2_with fail
    refine (c1 w0).mono ?_
    rintro e w1 ⟨rfl, hB1⟩
    have HB1 : Hid (Below w.heap.size w w1) := bst HB0.out hB1
    clear hB1
    go_wp2_with fail
    refine (c2 w1).mono ?_
    rintro e w2 ⟨rfl, hB2⟩
    have HB2 : Hid (Below w.heap.size w w2) := bst HB1.out hB2
    clear hB2
    go_wp2
    go_ret
    exact ⟨rfl, HB2.out⟩
  · clear ex ey hk ha hb k1 k2 k4 hab
    go_enter Try.func6, Try.ntmps6
    go_wp2_with fail
    refine (awake9_any w).mono ?_
    rintro e w0 ⟨rfl, hB0⟩
    have HB0 : Hid (Below w.heap.size w w0) := hB0
    clear hB0
    go_wp2_with fail
    refine (c1 w0).mono ?_
    rintro e w1 ⟨rfl, hB1⟩
    have HB1 : Hid (Below w.heap.size w w1) := bst HB0.out hB1
    clear hB1
    go_wp2_with fail
    refine (c2 w1).mono ?_
    rintro e w2 ⟨rfl, hB2⟩
    have HB2 : Hid (Below w.heap.size w w2) := bst HB1.out hB2
    clear hB2
    go_wp2
    go_ret
    exact ⟨rfl, HB2.out⟩
  · have h0 : -4294967296 ≤ x := by rw [← ex]; exact (bend_in3 a).1
    have h1 : y ≤ 4294967296 := by rw [← ey]; exact (bend_in3 b).2
    clear ex ey hk ha hb k1 k2 k4 hab
    go_enter Try.func6, Try.ntmps6
    go_wp2_with fail
    refine (awake9_any w).mono ?_
    rintro e w0 ⟨rfl, hB0⟩
    have HB0 : Hid (Below w.heap.size w w0) := hB0
    clear hB0
    go_wp2_with fail
    refine (c1 w0).mono ?_
    rintro e w1 ⟨rfl, hB1⟩
    have HB1 : Hid (Below w.heap.size w w1) := bst HB0.out hB1
    clear hB1
    go_wp2_with fail
    refine (c2 w1).mono ?_
    rintro e w2 ⟨rfl, hB2⟩
    have HB2 : Hid (Below w.heap.size w w2) := bst HB1.out hB2
    clear hB2
    go_wp2
    go_ret
    exact ⟨rfl, HB2.out⟩
  · have h0 : 0 ≤ x := by rw [← ex]; exact (bend_in5 a).1
    have h1 : y ≤ 4294967296 := by rw [← ey]; exact (bend_in5 b).2
    clear ex ey hk ha hb k1 k2 k4 hab
    go_enter Try.func6, Try.ntmps6
    go_wp2_with fail
    refine (awake9_any w).mono ?_
    rintro e w0 ⟨rfl, hB0⟩
    have HB0 : Hid (Below w.heap.size w w0) := hB0
    clear hB0
    go_wp2_with fail
    refine (c1 w0).mono ?_
    rintro e w1 ⟨rfl, hB1⟩
    have HB1 : Hid (Below w.heap.size w w1) := bst HB0.out hB1
    clear hB1
    go_wp2_with fail
    refine (c2 w1).mono ?_
    rintro e w2 ⟨rfl, hB2⟩
    have HB2 : Hid (Below w.heap.size w w2) := bst HB1.out hB2
    clear hB2
    go_wp2
    go_ret
    exact ⟨rfl, HB2.out⟩
end Go.Proofs.Ytlehlikgehbnfaa.Wd
