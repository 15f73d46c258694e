/- ActTwice: a ramp, a hold, a size that is bent again stays as it is. -/
import Derived.Test.YtlehlikgehbnfabActW
namespace Go.Proofs.Ytlehlikgehbnfab.Wd
open Go.RowKit Fx
set_option linter.unusedVariables false
set_option linter.unusedSimpArgs false
set_option maxHeartbeats 2000000 in
theorem twice_walk (w : World) (k x : Int) (hk : -9223372036854775808 ≤ k ∧ k ≤ 9223372036854775807) (hx : -9223372036854775808 ≤ x ∧ x ≤ 9223372036854775807) :
    Calls Try.prog 3 #[.int .i64 k, .int .i64 x] w fun e w' => e = .returned (.bool true) ∧ Below w.heap.size w w' := by
  by_cases hk3 : k = 1 ∨ k = 3 ∨ k = 4
  · obtain ⟨y, ey⟩ : ∃ y, bendI k x = y := ⟨_, rfl⟩
    have hy : InR y := by rw [← ey]; exact bend_rng hx
    have ez : bendI k y = y := by rw [← ey]; exact bend_twice hx hk3
    have c1 := of_ok ⟨by omega, by omega⟩ hx ey
    have c2 := of_ok ⟨by omega, by omega⟩ hy ez
    clear ey ez hy hx hk
    rcases hk3 with rfl | rfl | rfl
    · go_enter Try.func3, Try.ntmps3
      go_wp2_with fail
      refine (awake9_any w).mono ?_
      rintro e w0 ⟨rfl, hB0⟩
      have HB0 : Hid (Below w.heap.size w w0) := hB0
      clear hB0
      go_wp2_with fail
      refine (c1 w0).mono ?_
      rintro e w1 ⟨rfl, hB1⟩
      have HB1 : Hid (Below w.heap.size w w1) := bst HB0.out hB1
      clear hB1
      go_wp2_with fail
      refine (c2 w1).mono ?_
      rintro e w2 ⟨rfl, hB2⟩
      have HB2 : Hid (Below w.heap.size w w2) := bst HB1.out hB2
      clear hB2
      go_wp2
      go_ret
      exact ⟨by simp, HB2.out⟩
    · go_enter Try.func3, Try.ntmps3
      go_wp2_with fail
      refine (awake9_any w).mono ?_
      rintro e w0 ⟨rfl, hB0⟩
      have HB0 : Hid (Below w.heap.size w w0) := hB0
      clear hB0
      go_wp2_with fail
      refine (c1 w0).mono ?_
      rintro e w1 ⟨rfl, hB1⟩
      have HB1 : Hid (Below w.heap.size w w1) := bst HB0.out hB1
      clear hB1
      go_wp2_with fail
      refine (c2 w1).mono ?_
      rintro e w2 ⟨rfl, hB2⟩
      have HB2 : Hid (Below w.heap.size w w2) := bst HB1.out hB2
      clear hB2
      go_wp2
      go_ret
      exact ⟨by simp, HB2.out⟩
    · go_enter Try.func3, Try.ntmps3
      go_wp2_with fail
      refine (awake9_any w).mono ?_
      rintro e w0 ⟨rfl, hB0⟩
      have HB0 : Hid (Below w.heap.size w w0) := hB0
      clear hB0
      go_wp2_with fail
      refine (c1 w0).mono ?_
      rintro e w1 ⟨rfl, hB1⟩
      have HB1 : Hid (Below w.heap.size w w1) := bst HB0.out hB1
      clear hB1
      go_wp2_with fail
      refine (c2 w1).mono ?_
      rintro e w2 ⟨rfl, hB2⟩
      have HB2 : Hid (Below w.heap.size w w2) := bst HB1.out hB2
      clear hB2
      go_wp2
      go_ret
      exact ⟨by simp, HB2.out⟩
  · have k1 : (k != 1) = true := by simp; omega
    have k3 : (k != 3) = true := by simp; omega
    have k4 : (k != 4) = true := by simp; omega
    clear hk hx hk3
    go_enter Try.func3, Try.ntmps3
    go_wp2_with fail
    refine (awake9_any w).mono ?_
    rintro e w0 ⟨rfl, hB0⟩
    have HB0 : Hid (Below w.heap.size w w0) := hB0
    clear hB0
    go_wp2
    go_ret
    exact ⟨rfl, HB0.out⟩
end Go.Proofs.Ytlehlikgehbnfab.Wd
