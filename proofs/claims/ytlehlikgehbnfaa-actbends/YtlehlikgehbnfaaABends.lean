/- ActBends: any number, bent by any line, and the slope there, are as the document says. -/
import Derived.Test.YtlehlikgehbnfaaActW
import Derived.Test.YtlehlikgehbnfaaActR
namespace Go.Proofs.Ytlehlikgehbnfaa.Wd
open Go.RowKit Fx
set_option linter.unusedVariables false
set_option linter.unusedSimpArgs false
set_option maxHeartbeats 2000000 in
theorem bends_walk (w : World) (k x : Int) (hk : -9223372036854775808 ≤ k ∧ k ≤ 9223372036854775807) (hx : -9223372036854775808 ≤ x ∧ x ≤ 9223372036854775807) :
    Calls Try.prog 4 #[.int .i64 k, .int .i64 x] w fun e w' => e = .returned (.bool true) ∧ Below w.heap.size w w' := by
  by_cases hk' : 1 ≤ k ∧ k ≤ 5
  · obtain ⟨y, ey⟩ : ∃ y, bendI k x = y := ⟨_, rfl⟩
    obtain ⟨s, es⟩ : ∃ s, slopeI k x = s := ⟨_, rfl⟩
    have c1 := of_ok hk' hx ey
    have c2 := slope_ok hk' hx es
    have r1 : ∀ W, Calls Try.prog 15 #[.int .i64 k, .int .i64 x] W fun e w' => e = .returned (.int .i64 y) ∧ Below W.heap.size W w' := fun W => Rf.rbend_any k x hk' hx y ey W
    have r2 : ∀ W, Calls Try.prog 16 #[.int .i64 k, .int .i64 x] W fun e w' => e = .returned (.int .i64 s) ∧ Below W.heap.size W w' := fun W => Rf.rslope_any k x hk' hx s es W
    have k1 := hk'.1
    have k2 := hk'.2
    clear ey es hk' hk hx
    go_enter Try.func4, Try.ntmps4
    go_wp2_with fail
    refine (awake9_any w).mono ?_
    rintro e w0 ⟨rfl, hB0⟩
    have HB0 : Hid (Below w.heap.size w w0) := hB0
    clear hB0
    go_wp2_with fail
    refine (c1 w0).mono ?_
    rintro e w1 ⟨rfl, hB1⟩
    have HB1 : Hid (Below w.heap.size w w1) := bst HB0.out hB1
    clear hB1
    go_wp2_with fail
    refine (c2 w1).mono ?_
    rintro e w2 ⟨rfl, hB2⟩
    have HB2 : Hid (Below w.heap.size w w2) := bst HB1.out hB2
    clear hB2
    go_wp2_with fail
    refine (r1 w2).mono ?_
    rintro e w3 ⟨rfl, hB3⟩
    have HB3 : Hid (Below w.heap.size w w3) := bst HB2.out hB3
    clear hB3
    go_wp2_with fail
    refine (r2 w3).mono ?_
    rintro e w4 ⟨rfl, hB4⟩
    have HB4 : Hid (Below w.heap.size w w4) := bst HB3.out hB4
    clear hB4
    go_wp2
    go_ret
    exact ⟨by simp, HB4.out⟩
  · have c1 : ∀ W, Calls Try.prog 10 #[.int .i64 k, .int .i64 x] W fun e w' => e = .returned (.tuple #[.int .i64 0, .int .i64 1]) ∧ Below W.heap.size W w' := fun W => by
      have c := aof_any k x hx W
      unfold ofV kE at c
      rw [if_neg hk', if_neg hk'] at c
      exact c
    have c2 : ∀ W, Calls Try.prog 11 #[.int .i64 k, .int .i64 x] W fun e w' => e = .returned (.tuple #[.int .i64 0, .int .i64 1]) ∧ Below W.heap.size W w' := fun W => by
      have c := aslope_any k x hx W
      unfold slV kE at c
      rw [if_neg hk', if_neg hk'] at c
      exact c
    by_cases k1 : k < 1
    · clear hk' hk hx
      go_enter Try.func4, Try.ntmps4
      go_wp2_with fail
      refine (awake9_any w).mono ?_
      rintro e w0 ⟨rfl, hB0⟩
      have HB0 : Hid (Below w.heap.size w w0) := hB0
      clear hB0
      go_wp2_with fail
      refine (c1 w0).mono ?_
      rintro e w1 ⟨rfl, hB1⟩
      have HB1 : Hid (Below w.heap.size w w1) := bst HB0.out hB1
      clear hB1
      go_wp2_with fail
      refine (c2 w1).mono ?_
      rintro e w2 ⟨rfl, hB2⟩
      have HB2 : Hid (Below w.heap.size w w2) := bst HB1.out hB2
      clear hB2
      go_wp2
      go_ret
      exact ⟨rfl, HB2.out⟩
    · have k2 : 5 < k := by omega
      have k3 : 1 ≤ k := by omega
      clear hk' hk hx k1
      go_enter Try.func4, Try.ntmps4
      go_wp2_with fail
      refine (awake9_any w).mono ?_
      rintro e w0 ⟨rfl, hB0⟩
      have HB0 : Hid (Below w.heap.size w w0) := hB0
      clear hB0
      go_wp2_with fail
      refine (c1 w0).mono ?_
      rintro e w1 ⟨rfl, hB1⟩
      have HB1 : Hid (Below w.heap.size w w1) := bst HB0.out hB1
      clear hB1
      go_wp2_with fail
      refine (c2 w1).mono ?_
      rintro e w2 ⟨rfl, hB2⟩
      have HB2 : Hid (Below w.heap.size w w2) := bst HB1.out hB2
      clear hB2
      go_wp2
      go_ret
      exact ⟨rfl, HB2.out⟩
end Go.Proofs.Ytlehlikgehbnfaa.Wd
