/- ActSlopes: between two points of one piece of a ramp, a hold, a size the line rises by its slope. -/
import Derived.Test.YtlehlikgehbnfaaActW
import Derived.Test.YtlehlikgehbnfaaActR
namespace Go.Proofs.Ytlehlikgehbnfaa.Wd
open Go.RowKit Fx
set_option linter.unusedVariables false
set_option linter.unusedSimpArgs false
set_option maxHeartbeats 2000000 in
theorem sl1a (w : World) (a b x y s u z : Int) (c1 : ∀ W, Calls Try.prog 10 #[.int .i64 1, .int .i64 a] W fun e w' => e = .returned (.tuple #[.int .i64 x, .int .i64 0]) ∧ Below W.heap.size W w') (c2 : ∀ W, Calls Try.prog 10 #[.int .i64 1, .int .i64 b] W fun e w' => e = .returned (.tuple #[.int .i64 y, .int .i64 0]) ∧ Below W.heap.size W w') (c3 : ∀ W, Calls Try.prog 11 #[.int .i64 1, .int .i64 a] W fun e w' => e = .returned (.tuple #[.int .i64 s, .int .i64 0]) ∧ Below W.heap.size W w') (c4 : ∀ W, Calls Try.prog 11 #[.int .i64 1, .int .i64 b] W fun e w' => e = .returned (.tuple #[.int .i64 s, .int .i64 0]) ∧ Below W.heap.size W w') (d1 : decide (a ≥ b) = false) (d2 : decide (a < -1152921504606846976) = false) (d3 : decide (b > 1152921504606846976) = false) (dA : decide (a < 0) = true) (dB : decide (b > 0) = true) :
    Calls Try.prog 7 #[.int .i64 1, .int .i64 a, .int .i64 b] w fun e w' => e = .returned (.bool true) ∧ Below w.heap.size w w' := by
  go_enter Try.func7, Try.ntmps7
  go_wp2_with fail
  refine (awake9_any w).mono ?_
  rintro e w0 ⟨rfl, hB0⟩
  have HB0 : Hid (Below w.heap.size w w0) := hB0
  clear hB0
  go_wp2_with fail
  refine (c1 w0).mono ?_
  rintro e w1 ⟨rfl, hB1⟩
  have HB1 : Hid (Below w.heap.size w w1) := bst HB0.out hB1
  clear hB1
  go_wp2_with fail
  refine (c2 w1).mono ?_
  rintro e w2 ⟨rfl, hB2⟩
  have HB2 : Hid (Below w.heap.size w w2) := bst HB1.out hB2
  clear hB2
  go_wp2_with fail
  refine (c3 w2).mono ?_
  rintro e w3 ⟨rfl, hB3⟩
  have HB3 : Hid (Below w.heap.size w w3) := bst HB2.out hB3
  clear hB3
  go_wp2_with fail
  refine (c4 w3).mono ?_
  rintro e w4 ⟨rfl, hB4⟩
  have HB4 : Hid (Below w.heap.size w w4) := bst HB3.out hB4
  clear hB4
  go_wp2
  go_ret
  exact ⟨rfl, HB4.out⟩
set_option maxHeartbeats 2000000 in
theorem sl1b (w : World) (a b x y s u z : Int) (c1 : ∀ W, Calls Try.prog 10 #[.int .i64 1, .int .i64 a] W fun e w' => e = .returned (.tuple #[.int .i64 x, .int .i64 0]) ∧ Below W.heap.size W w') (c2 : ∀ W, Calls Try.prog 10 #[.int .i64 1, .int .i64 b] W fun e w' => e = .returned (.tuple #[.int .i64 y, .int .i64 0]) ∧ Below W.heap.size W w') (c3 : ∀ W, Calls Try.prog 11 #[.int .i64 1, .int .i64 a] W fun e w' => e = .returned (.tuple #[.int .i64 s, .int .i64 0]) ∧ Below W.heap.size W w') (c4 : ∀ W, Calls Try.prog 11 #[.int .i64 1, .int .i64 b] W fun e w' => e = .returned (.tuple #[.int .i64 s, .int .i64 0]) ∧ Below W.heap.size W w') (d1 : decide (a ≥ b) = false) (d2 : decide (a < -1152921504606846976) = false) (d3 : decide (b > 1152921504606846976) = false) (dA : decide (a < 0) = true) (dB : decide (b > 0) = false) (dL : decide (a ≤ -4294967296) = true) (dH : decide (b ≥ 4294967296) = false) (v1 : wrap64 (y - x) = z) (v2 : wrap64 (b - a) = b - a) (c5 : ∀ W, Calls Try.prog 20 #[.int .i64 (b - a), .int .i64 s] W fun e w' => e = .returned (.int .i64 z) ∧ Below W.heap.size W w') :
    Calls Try.prog 7 #[.int .i64 1, .int .i64 a, .int .i64 b] w fun e w' => e = .returned (.bool true) ∧ Below w.heap.size w w' := by
  go_enter Try.func7, Try.ntmps7
  go_wp2_with fail
  refine (awake9_any w).mono ?_
  rintro e w0 ⟨rfl, hB0⟩
  have HB0 : Hid (Below w.heap.size w w0) := hB0
  clear hB0
  go_wp2_with fail
  refine (c1 w0).mono ?_
  rintro e w1 ⟨rfl, hB1⟩
  have HB1 : Hid (Below w.heap.size w w1) := bst HB0.out hB1
  clear hB1
  go_wp2_with fail
  refine (c2 w1).mono ?_
  rintro e w2 ⟨rfl, hB2⟩
  have HB2 : Hid (Below w.heap.size w w2) := bst HB1.out hB2
  clear hB2
  go_wp2_with fail
  refine (c3 w2).mono ?_
  rintro e w3 ⟨rfl, hB3⟩
  have HB3 : Hid (Below w.heap.size w w3) := bst HB2.out hB3
  clear hB3
  go_wp2_with fail
  refine (c4 w3).mono ?_
  rintro e w4 ⟨rfl, hB4⟩
  have HB4 : Hid (Below w.heap.size w w4) := bst HB3.out hB4
  clear hB4
  go_wp2_with fail
  refine (c5 w4).mono ?_
  rintro e w5 ⟨rfl, hB5⟩
  have HB5 : Hid (Below w.heap.size w w5) := bst HB4.out hB5
  clear hB5
  go_wp2
  go_ret
  exact ⟨rfl, HB5.out⟩
set_option maxHeartbeats 2000000 in
theorem sl1c (w : World) (a b x y s u z : Int) (c1 : ∀ W, Calls Try.prog 10 #[.int .i64 1, .int .i64 a] W fun e w' => e = .returned (.tuple #[.int .i64 x, .int .i64 0]) ∧ Below W.heap.size W w') (c2 : ∀ W, Calls Try.prog 10 #[.int .i64 1, .int .i64 b] W fun e w' => e = .returned (.tuple #[.int .i64 y, .int .i64 0]) ∧ Below W.heap.size W w') (c3 : ∀ W, Calls Try.prog 11 #[.int .i64 1, .int .i64 a] W fun e w' => e = .returned (.tuple #[.int .i64 s, .int .i64 0]) ∧ Below W.heap.size W w') (c4 : ∀ W, Calls Try.prog 11 #[.int .i64 1, .int .i64 b] W fun e w' => e = .returned (.tuple #[.int .i64 s, .int .i64 0]) ∧ Below W.heap.size W w') (d1 : decide (a ≥ b) = false) (d2 : decide (a < -1152921504606846976) = false) (d3 : decide (b > 1152921504606846976) = false) (dA : decide (a < 0) = true) (dB : decide (b > 0) = false) (dL : decide (a ≤ -4294967296) = false) (v1 : wrap64 (y - x) = z) (v2 : wrap64 (b - a) = b - a) (c5 : ∀ W, Calls Try.prog 20 #[.int .i64 (b - a), .int .i64 s] W fun e w' => e = .returned (.int .i64 z) ∧ Below W.heap.size W w') :
    Calls Try.prog 7 #[.int .i64 1, .int .i64 a, .int .i64 b] w fun e w' => e = .returned (.bool true) ∧ Below w.heap.size w w' := by
  go_enter Try.func7, Try.ntmps7
  go_wp2_with fail
  refine (awake9_any w).mono ?_
  rintro e w0 ⟨rfl, hB0⟩
  have HB0 : Hid (Below w.heap.size w w0) := hB0
  clear hB0
  go_wp2_with fail
  refine (c1 w0).mono ?_
  rintro e w1 ⟨rfl, hB1⟩
  have HB1 : Hid (Below w.heap.size w w1) := bst HB0.out hB1
  clear hB1
  go_wp2_with fail
  refine (c2 w1).mono ?_
  rintro e w2 ⟨rfl, hB2⟩
  have HB2 : Hid (Below w.heap.size w w2) := bst HB1.out hB2
  clear hB2
  go_wp2_with fail
  refine (c3 w2).mono ?_
  rintro e w3 ⟨rfl, hB3⟩
  have HB3 : Hid (Below w.heap.size w w3) := bst HB2.out hB3
  clear hB3
  go_wp2_with fail
  refine (c4 w3).mono ?_
  rintro e w4 ⟨rfl, hB4⟩
  have HB4 : Hid (Below w.heap.size w w4) := bst HB3.out hB4
  clear hB4
  go_wp2_with fail
  refine (c5 w4).mono ?_
  rintro e w5 ⟨rfl, hB5⟩
  have HB5 : Hid (Below w.heap.size w w5) := bst HB4.out hB5
  clear hB5
  go_wp2
  go_ret
  exact ⟨rfl, HB5.out⟩
set_option maxHeartbeats 2000000 in
theorem sl1d (w : World) (a b x y s u z : Int) (c1 : ∀ W, Calls Try.prog 10 #[.int .i64 1, .int .i64 a] W fun e w' => e = .returned (.tuple #[.int .i64 x, .int .i64 0]) ∧ Below W.heap.size W w') (c2 : ∀ W, Calls Try.prog 10 #[.int .i64 1, .int .i64 b] W fun e w' => e = .returned (.tuple #[.int .i64 y, .int .i64 0]) ∧ Below W.heap.size W w') (c3 : ∀ W, Calls Try.prog 11 #[.int .i64 1, .int .i64 a] W fun e w' => e = .returned (.tuple #[.int .i64 s, .int .i64 0]) ∧ Below W.heap.size W w') (c4 : ∀ W, Calls Try.prog 11 #[.int .i64 1, .int .i64 b] W fun e w' => e = .returned (.tuple #[.int .i64 s, .int .i64 0]) ∧ Below W.heap.size W w') (d1 : decide (a ≥ b) = false) (d2 : decide (a < -1152921504606846976) = false) (d3 : decide (b > 1152921504606846976) = false) (dA : decide (a < 0) = false) (dL : decide (a ≤ -4294967296) = false) (v1 : wrap64 (y - x) = z) (v2 : wrap64 (b - a) = b - a) (c5 : ∀ W, Calls Try.prog 20 #[.int .i64 (b - a), .int .i64 s] W fun e w' => e = .returned (.int .i64 z) ∧ Below W.heap.size W w') :
    Calls Try.prog 7 #[.int .i64 1, .int .i64 a, .int .i64 b] w fun e w' => e = .returned (.bool true) ∧ Below w.heap.size w w' := by
  go_enter Try.func7, Try.ntmps7
  go_wp2_with fail
  refine (awake9_any w).mono ?_
  rintro e w0 ⟨rfl, hB0⟩
  have HB0 : Hid (Below w.heap.size w w0) := hB0
  clear hB0
  go_wp2_with fail
  refine (c1 w0).mono ?_
  rintro e w1 ⟨rfl, hB1⟩
  have HB1 : Hid (Below w.heap.size w w1) := bst HB0.out hB1
  clear hB1
  go_wp2_with fail
  refine (c2 w1).mono ?_
  rintro e w2 ⟨rfl, hB2⟩
  have HB2 : Hid (Below w.heap.size w w2) := bst HB1.out hB2
  clear hB2
  go_wp2_with fail
  refine (c3 w2).mono ?_
  rintro e w3 ⟨rfl, hB3⟩
  have HB3 : Hid (Below w.heap.size w w3) := bst HB2.out hB3
  clear hB3
  go_wp2_with fail
  refine (c4 w3).mono ?_
  rintro e w4 ⟨rfl, hB4⟩
  have HB4 : Hid (Below w.heap.size w w4) := bst HB3.out hB4
  clear hB4
  go_wp2_with fail
  refine (c5 w4).mono ?_
  rintro e w5 ⟨rfl, hB5⟩
  have HB5 : Hid (Below w.heap.size w w5) := bst HB4.out hB5
  clear hB5
  go_wp2
  go_ret
  exact ⟨rfl, HB5.out⟩
set_option maxHeartbeats 2000000 in
theorem sl1s (w : World) (a b x y s u z : Int) (c1 : ∀ W, Calls Try.prog 10 #[.int .i64 1, .int .i64 a] W fun e w' => e = .returned (.tuple #[.int .i64 x, .int .i64 0]) ∧ Below W.heap.size W w') (c2 : ∀ W, Calls Try.prog 10 #[.int .i64 1, .int .i64 b] W fun e w' => e = .returned (.tuple #[.int .i64 y, .int .i64 0]) ∧ Below W.heap.size W w') (c3 : ∀ W, Calls Try.prog 11 #[.int .i64 1, .int .i64 a] W fun e w' => e = .returned (.tuple #[.int .i64 s, .int .i64 0]) ∧ Below W.heap.size W w') (c4 : ∀ W, Calls Try.prog 11 #[.int .i64 1, .int .i64 b] W fun e w' => e = .returned (.tuple #[.int .i64 u, .int .i64 0]) ∧ Below W.heap.size W w') (d1 : decide (a ≥ b) = false) (d2 : decide (a < -1152921504606846976) = false) (d3 : decide (b > 1152921504606846976) = false) (ds : (s != u) = true) :
    Calls Try.prog 7 #[.int .i64 1, .int .i64 a, .int .i64 b] w fun e w' => e = .returned (.bool true) ∧ Below w.heap.size w w' := by
  go_enter Try.func7, Try.ntmps7
  go_wp2_with fail
  refine (awake9_any w).mono ?_
  rintro e w0 ⟨rfl, hB0⟩
  have HB0 : Hid (Below w.heap.size w w0) := hB0
  clear hB0
  go_wp2_with fail
  refine (c1 w0).mono ?_
  rintro e w1 ⟨rfl, hB1⟩
  have HB1 : Hid (Below w.heap.size w w1) := bst HB0.out hB1
  clear hB1
  go_wp2_with fail
  refine (c2 w1).mono ?_
  rintro e w2 ⟨rfl, hB2⟩
  have HB2 : Hid (Below w.heap.size w w2) := bst HB1.out hB2
  clear hB2
  go_wp2_with fail
  refine (c3 w2).mono ?_
  rintro e w3 ⟨rfl, hB3⟩
  have HB3 : Hid (Below w.heap.size w w3) := bst HB2.out hB3
  clear hB3
  go_wp2_with fail
  refine (c4 w3).mono ?_
  rintro e w4 ⟨rfl, hB4⟩
  have HB4 : Hid (Below w.heap.size w w4) := bst HB3.out hB4
  clear hB4
  go_wp2
  go_ret
  exact ⟨rfl, HB4.out⟩
set_option maxHeartbeats 2000000 in
theorem sl3a (w : World) (a b x y s u z : Int) (c1 : ∀ W, Calls Try.prog 10 #[.int .i64 3, .int .i64 a] W fun e w' => e = .returned (.tuple #[.int .i64 x, .int .i64 0]) ∧ Below W.heap.size W w') (c2 : ∀ W, Calls Try.prog 10 #[.int .i64 3, .int .i64 b] W fun e w' => e = .returned (.tuple #[.int .i64 y, .int .i64 0]) ∧ Below W.heap.size W w') (c3 : ∀ W, Calls Try.prog 11 #[.int .i64 3, .int .i64 a] W fun e w' => e = .returned (.tuple #[.int .i64 s, .int .i64 0]) ∧ Below W.heap.size W w') (c4 : ∀ W, Calls Try.prog 11 #[.int .i64 3, .int .i64 b] W fun e w' => e = .returned (.tuple #[.int .i64 s, .int .i64 0]) ∧ Below W.heap.size W w') (d1 : decide (a ≥ b) = false) (d2 : decide (a < -1152921504606846976) = false) (d3 : decide (b > 1152921504606846976) = false) (dA : decide (a < 0) = true) (dB : decide (b > 0) = true) (dL : decide (a ≤ -4294967296) = true) (dH : decide (b ≥ 4294967296) = true) :
    Calls Try.prog 7 #[.int .i64 3, .int .i64 a, .int .i64 b] w fun e w' => e = .returned (.bool true) ∧ Below w.heap.size w w' := by
  go_enter Try.func7, Try.ntmps7
  go_wp2_with fail
  refine (awake9_any w).mono ?_
  rintro e w0 ⟨rfl, hB0⟩
  have HB0 : Hid (Below w.heap.size w w0) := hB0
  clear hB0
  go_wp2_with fail
  refine (c1 w0).mono ?_
  rintro e w1 ⟨rfl, hB1⟩
  have HB1 : Hid (Below w.heap.size w w1) := bst HB0.out hB1
  clear hB1
  go_wp2_with fail
  refine (c2 w1).mono ?_
  rintro e w2 ⟨rfl, hB2⟩
  have HB2 : Hid (Below w.heap.size w w2) := bst HB1.out hB2
  clear hB2
  go_wp2_with fail
  refine (c3 w2).mono ?_
  rintro e w3 ⟨rfl, hB3⟩
  have HB3 : Hid (Below w.heap.size w w3) := bst HB2.out hB3
  clear hB3
  go_wp2_with fail
  refine (c4 w3).mono ?_
  rintro e w4 ⟨rfl, hB4⟩
  have HB4 : Hid (Below w.heap.size w w4) := bst HB3.out hB4
  clear hB4
  go_wp2
  go_ret
  exact ⟨rfl, HB4.out⟩
set_option maxHeartbeats 2000000 in
theorem sl3b (w : World) (a b x y s u z : Int) (c1 : ∀ W, Calls Try.prog 10 #[.int .i64 3, .int .i64 a] W fun e w' => e = .returned (.tuple #[.int .i64 x, .int .i64 0]) ∧ Below W.heap.size W w') (c2 : ∀ W, Calls Try.prog 10 #[.int .i64 3, .int .i64 b] W fun e w' => e = .returned (.tuple #[.int .i64 y, .int .i64 0]) ∧ Below W.heap.size W w') (c3 : ∀ W, Calls Try.prog 11 #[.int .i64 3, .int .i64 a] W fun e w' => e = .returned (.tuple #[.int .i64 s, .int .i64 0]) ∧ Below W.heap.size W w') (c4 : ∀ W, Calls Try.prog 11 #[.int .i64 3, .int .i64 b] W fun e w' => e = .returned (.tuple #[.int .i64 s, .int .i64 0]) ∧ Below W.heap.size W w') (d1 : decide (a ≥ b) = false) (d2 : decide (a < -1152921504606846976) = false) (d3 : decide (b > 1152921504606846976) = false) (dA : decide (a < 0) = true) (dB : decide (b > 0) = true) (dL : decide (a ≤ -4294967296) = true) (dH : decide (b ≥ 4294967296) = false) (v1 : wrap64 (y - x) = z) (v2 : wrap64 (b - a) = b - a) (c5 : ∀ W, Calls Try.prog 20 #[.int .i64 (b - a), .int .i64 s] W fun e w' => e = .returned (.int .i64 z) ∧ Below W.heap.size W w') :
    Calls Try.prog 7 #[.int .i64 3, .int .i64 a, .int .i64 b] w fun e w' => e = .returned (.bool true) ∧ Below w.heap.size w w' := by
  go_enter Try.func7, Try.ntmps7
  go_wp2_with fail
  refine (awake9_any w).mono ?_
  rintro e w0 ⟨rfl, hB0⟩
  have HB0 : Hid (Below w.heap.size w w0) := hB0
  clear hB0
  go_wp2_with fail
  refine (c1 w0).mono ?_
  rintro e w1 ⟨rfl, hB1⟩
  have HB1 : Hid (Below w.heap.size w w1) := bst HB0.out hB1
  clear hB1
  go_wp2_with fail
  refine (c2 w1).mono ?_
  rintro e w2 ⟨rfl, hB2⟩
  have HB2 : Hid (Below w.heap.size w w2) := bst HB1.out hB2
  clear hB2
  go_wp2_with fail
  refine (c3 w2).mono ?_
  rintro e w3 ⟨rfl, hB3⟩
  have HB3 : Hid (Below w.heap.size w w3) := bst HB2.out hB3
  clear hB3
  go_wp2_with fail
  refine (c4 w3).mono ?_
  rintro e w4 ⟨rfl, hB4⟩
  have HB4 : Hid (Below w.heap.size w w4) := bst HB3.out hB4
  clear hB4
  go_wp2_with fail
  refine (c5 w4).mono ?_
  rintro e w5 ⟨rfl, hB5⟩
  have HB5 : Hid (Below w.heap.size w w5) := bst HB4.out hB5
  clear hB5
  go_wp2
  go_ret
  exact ⟨rfl, HB5.out⟩
set_option maxHeartbeats 2000000 in
theorem sl3c (w : World) (a b x y s u z : Int) (c1 : ∀ W, Calls Try.prog 10 #[.int .i64 3, .int .i64 a] W fun e w' => e = .returned (.tuple #[.int .i64 x, .int .i64 0]) ∧ Below W.heap.size W w') (c2 : ∀ W, Calls Try.prog 10 #[.int .i64 3, .int .i64 b] W fun e w' => e = .returned (.tuple #[.int .i64 y, .int .i64 0]) ∧ Below W.heap.size W w') (c3 : ∀ W, Calls Try.prog 11 #[.int .i64 3, .int .i64 a] W fun e w' => e = .returned (.tuple #[.int .i64 s, .int .i64 0]) ∧ Below W.heap.size W w') (c4 : ∀ W, Calls Try.prog 11 #[.int .i64 3, .int .i64 b] W fun e w' => e = .returned (.tuple #[.int .i64 s, .int .i64 0]) ∧ Below W.heap.size W w') (d1 : decide (a ≥ b) = false) (d2 : decide (a < -1152921504606846976) = false) (d3 : decide (b > 1152921504606846976) = false) (dA : decide (a < 0) = true) (dB : decide (b > 0) = true) (dL : decide (a ≤ -4294967296) = false) (v1 : wrap64 (y - x) = z) (v2 : wrap64 (b - a) = b - a) (c5 : ∀ W, Calls Try.prog 20 #[.int .i64 (b - a), .int .i64 s] W fun e w' => e = .returned (.int .i64 z) ∧ Below W.heap.size W w') :
    Calls Try.prog 7 #[.int .i64 3, .int .i64 a, .int .i64 b] w fun e w' => e = .returned (.bool true) ∧ Below w.heap.size w w' := by
  go_enter Try.func7, Try.ntmps7
  go_wp2_with fail
  refine (awake9_any w).mono ?_
  rintro e w0 ⟨rfl, hB0⟩
  have HB0 : Hid (Below w.heap.size w w0) := hB0
  clear hB0
  go_wp2_with fail
  refine (c1 w0).mono ?_
  rintro e w1 ⟨rfl, hB1⟩
  have HB1 : Hid (Below w.heap.size w w1) := bst HB0.out hB1
  clear hB1
  go_wp2_with fail
  refine (c2 w1).mono ?_
  rintro e w2 ⟨rfl, hB2⟩
  have HB2 : Hid (Below w.heap.size w w2) := bst HB1.out hB2
  clear hB2
  go_wp2_with fail
  refine (c3 w2).mono ?_
  rintro e w3 ⟨rfl, hB3⟩
  have HB3 : Hid (Below w.heap.size w w3) := bst HB2.out hB3
  clear hB3
  go_wp2_with fail
  refine (c4 w3).mono ?_
  rintro e w4 ⟨rfl, hB4⟩
  have HB4 : Hid (Below w.heap.size w w4) := bst HB3.out hB4
  clear hB4
  go_wp2_with fail
  refine (c5 w4).mono ?_
  rintro e w5 ⟨rfl, hB5⟩
  have HB5 : Hid (Below w.heap.size w w5) := bst HB4.out hB5
  clear hB5
  go_wp2
  go_ret
  exact ⟨rfl, HB5.out⟩
set_option maxHeartbeats 2000000 in
theorem sl3d (w : World) (a b x y s u z : Int) (c1 : ∀ W, Calls Try.prog 10 #[.int .i64 3, .int .i64 a] W fun e w' => e = .returned (.tuple #[.int .i64 x, .int .i64 0]) ∧ Below W.heap.size W w') (c2 : ∀ W, Calls Try.prog 10 #[.int .i64 3, .int .i64 b] W fun e w' => e = .returned (.tuple #[.int .i64 y, .int .i64 0]) ∧ Below W.heap.size W w') (c3 : ∀ W, Calls Try.prog 11 #[.int .i64 3, .int .i64 a] W fun e w' => e = .returned (.tuple #[.int .i64 s, .int .i64 0]) ∧ Below W.heap.size W w') (c4 : ∀ W, Calls Try.prog 11 #[.int .i64 3, .int .i64 b] W fun e w' => e = .returned (.tuple #[.int .i64 s, .int .i64 0]) ∧ Below W.heap.size W w') (d1 : decide (a ≥ b) = false) (d2 : decide (a < -1152921504606846976) = false) (d3 : decide (b > 1152921504606846976) = false) (dA : decide (a < 0) = true) (dB : decide (b > 0) = false) (dL : decide (a ≤ -4294967296) = true) (dH : decide (b ≥ 4294967296) = false) (v1 : wrap64 (y - x) = z) (v2 : wrap64 (b - a) = b - a) (c5 : ∀ W, Calls Try.prog 20 #[.int .i64 (b - a), .int .i64 s] W fun e w' => e = .returned (.int .i64 z) ∧ Below W.heap.size W w') :
    Calls Try.prog 7 #[.int .i64 3, .int .i64 a, .int .i64 b] w fun e w' => e = .returned (.bool true) ∧ Below w.heap.size w w' := by
  go_enter Try.func7, Try.ntmps7
  go_wp2_with fail
  refine (awake9_any w).mono ?_
  rintro e w0 ⟨rfl, hB0⟩
  have HB0 : Hid (Below w.heap.size w w0) := hB0
  clear hB0
  go_wp2_with fail
  refine (c1 w0).mono ?_
  rintro e w1 ⟨rfl, hB1⟩
  have HB1 : Hid (Below w.heap.size w w1) := bst HB0.out hB1
  clear hB1
  go_wp2_with fail
  refine (c2 w1).mono ?_
  rintro e w2 ⟨rfl, hB2⟩
  have HB2 : Hid (Below w.heap.size w w2) := bst HB1.out hB2
  clear hB2
  go_wp2_with fail
  refine (c3 w2).mono ?_
  rintro e w3 ⟨rfl, hB3⟩
  have HB3 : Hid (Below w.heap.size w w3) := bst HB2.out hB3
  clear hB3
  go_wp2_with fail
  refine (c4 w3).mono ?_
  rintro e w4 ⟨rfl, hB4⟩
  have HB4 : Hid (Below w.heap.size w w4) := bst HB3.out hB4
  clear hB4
  go_wp2_with fail
  refine (c5 w4).mono ?_
  rintro e w5 ⟨rfl, hB5⟩
  have HB5 : Hid (Below w.heap.size w w5) := bst HB4.out hB5
  clear hB5
  go_wp2
  go_ret
  exact ⟨rfl, HB5.out⟩
set_option maxHeartbeats 2000000 in
theorem sl3e (w : World) (a b x y s u z : Int) (c1 : ∀ W, Calls Try.prog 10 #[.int .i64 3, .int .i64 a] W fun e w' => e = .returned (.tuple #[.int .i64 x, .int .i64 0]) ∧ Below W.heap.size W w') (c2 : ∀ W, Calls Try.prog 10 #[.int .i64 3, .int .i64 b] W fun e w' => e = .returned (.tuple #[.int .i64 y, .int .i64 0]) ∧ Below W.heap.size W w') (c3 : ∀ W, Calls Try.prog 11 #[.int .i64 3, .int .i64 a] W fun e w' => e = .returned (.tuple #[.int .i64 s, .int .i64 0]) ∧ Below W.heap.size W w') (c4 : ∀ W, Calls Try.prog 11 #[.int .i64 3, .int .i64 b] W fun e w' => e = .returned (.tuple #[.int .i64 s, .int .i64 0]) ∧ Below W.heap.size W w') (d1 : decide (a ≥ b) = false) (d2 : decide (a < -1152921504606846976) = false) (d3 : decide (b > 1152921504606846976) = false) (dA : decide (a < 0) = true) (dB : decide (b > 0) = false) (dL : decide (a ≤ -4294967296) = false) (v1 : wrap64 (y - x) = z) (v2 : wrap64 (b - a) = b - a) (c5 : ∀ W, Calls Try.prog 20 #[.int .i64 (b - a), .int .i64 s] W fun e w' => e = .returned (.int .i64 z) ∧ Below W.heap.size W w') :
    Calls Try.prog 7 #[.int .i64 3, .int .i64 a, .int .i64 b] w fun e w' => e = .returned (.bool true) ∧ Below w.heap.size w w' := by
  go_enter Try.func7, Try.ntmps7
  go_wp2_with fail
  refine (awake9_any w).mono ?_
  rintro e w0 ⟨rfl, hB0⟩
  have HB0 : Hid (Below w.heap.size w w0) := hB0
  clear hB0
  go_wp2_with fail
  refine (c1 w0).mono ?_
  rintro e w1 ⟨rfl, hB1⟩
  have HB1 : Hid (Below w.heap.size w w1) := bst HB0.out hB1
  clear hB1
  go_wp2_with fail
  refine (c2 w1).mono ?_
  rintro e w2 ⟨rfl, hB2⟩
  have HB2 : Hid (Below w.heap.size w w2) := bst HB1.out hB2
  clear hB2
  go_wp2_with fail
  refine (c3 w2).mono ?_
  rintro e w3 ⟨rfl, hB3⟩
  have HB3 : Hid (Below w.heap.size w w3) := bst HB2.out hB3
  clear hB3
  go_wp2_with fail
  refine (c4 w3).mono ?_
  rintro e w4 ⟨rfl, hB4⟩
  have HB4 : Hid (Below w.heap.size w w4) := bst HB3.out hB4
  clear hB4
  go_wp2_with fail
  refine (c5 w4).mono ?_
  rintro e w5 ⟨rfl, hB5⟩
  have HB5 : Hid (Below w.heap.size w w5) := bst HB4.out hB5
  clear hB5
  go_wp2
  go_ret
  exact ⟨rfl, HB5.out⟩
set_option maxHeartbeats 2000000 in
theorem sl3f (w : World) (a b x y s u z : Int) (c1 : ∀ W, Calls Try.prog 10 #[.int .i64 3, .int .i64 a] W fun e w' => e = .returned (.tuple #[.int .i64 x, .int .i64 0]) ∧ Below W.heap.size W w') (c2 : ∀ W, Calls Try.prog 10 #[.int .i64 3, .int .i64 b] W fun e w' => e = .returned (.tuple #[.int .i64 y, .int .i64 0]) ∧ Below W.heap.size W w') (c3 : ∀ W, Calls Try.prog 11 #[.int .i64 3, .int .i64 a] W fun e w' => e = .returned (.tuple #[.int .i64 s, .int .i64 0]) ∧ Below W.heap.size W w') (c4 : ∀ W, Calls Try.prog 11 #[.int .i64 3, .int .i64 b] W fun e w' => e = .returned (.tuple #[.int .i64 s, .int .i64 0]) ∧ Below W.heap.size W w') (d1 : decide (a ≥ b) = false) (d2 : decide (a < -1152921504606846976) = false) (d3 : decide (b > 1152921504606846976) = false) (dA : decide (a < 0) = false) (dL : decide (a ≤ -4294967296) = false) (v1 : wrap64 (y - x) = z) (v2 : wrap64 (b - a) = b - a) (c5 : ∀ W, Calls Try.prog 20 #[.int .i64 (b - a), .int .i64 s] W fun e w' => e = .returned (.int .i64 z) ∧ Below W.heap.size W w') :
    Calls Try.prog 7 #[.int .i64 3, .int .i64 a, .int .i64 b] w fun e w' => e = .returned (.bool true) ∧ Below w.heap.size w w' := by
  go_enter Try.func7, Try.ntmps7
  go_wp2_with fail
  refine (awake9_any w).mono ?_
  rintro e w0 ⟨rfl, hB0⟩
  have HB0 : Hid (Below w.heap.size w w0) := hB0
  clear hB0
  go_wp2_with fail
  refine (c1 w0).mono ?_
  rintro e w1 ⟨rfl, hB1⟩
  have HB1 : Hid (Below w.heap.size w w1) := bst HB0.out hB1
  clear hB1
  go_wp2_with fail
  refine (c2 w1).mono ?_
  rintro e w2 ⟨rfl, hB2⟩
  have HB2 : Hid (Below w.heap.size w w2) := bst HB1.out hB2
  clear hB2
  go_wp2_with fail
  refine (c3 w2).mono ?_
  rintro e w3 ⟨rfl, hB3⟩
  have HB3 : Hid (Below w.heap.size w w3) := bst HB2.out hB3
  clear hB3
  go_wp2_with fail
  refine (c4 w3).mono ?_
  rintro e w4 ⟨rfl, hB4⟩
  have HB4 : Hid (Below w.heap.size w w4) := bst HB3.out hB4
  clear hB4
  go_wp2_with fail
  refine (c5 w4).mono ?_
  rintro e w5 ⟨rfl, hB5⟩
  have HB5 : Hid (Below w.heap.size w w5) := bst HB4.out hB5
  clear hB5
  go_wp2
  go_ret
  exact ⟨rfl, HB5.out⟩
set_option maxHeartbeats 2000000 in
theorem sl3s (w : World) (a b x y s u z : Int) (c1 : ∀ W, Calls Try.prog 10 #[.int .i64 3, .int .i64 a] W fun e w' => e = .returned (.tuple #[.int .i64 x, .int .i64 0]) ∧ Below W.heap.size W w') (c2 : ∀ W, Calls Try.prog 10 #[.int .i64 3, .int .i64 b] W fun e w' => e = .returned (.tuple #[.int .i64 y, .int .i64 0]) ∧ Below W.heap.size W w') (c3 : ∀ W, Calls Try.prog 11 #[.int .i64 3, .int .i64 a] W fun e w' => e = .returned (.tuple #[.int .i64 s, .int .i64 0]) ∧ Below W.heap.size W w') (c4 : ∀ W, Calls Try.prog 11 #[.int .i64 3, .int .i64 b] W fun e w' => e = .returned (.tuple #[.int .i64 u, .int .i64 0]) ∧ Below W.heap.size W w') (d1 : decide (a ≥ b) = false) (d2 : decide (a < -1152921504606846976) = false) (d3 : decide (b > 1152921504606846976) = false) (ds : (s != u) = true) :
    Calls Try.prog 7 #[.int .i64 3, .int .i64 a, .int .i64 b] w fun e w' => e = .returned (.bool true) ∧ Below w.heap.size w w' := by
  go_enter Try.func7, Try.ntmps7
  go_wp2_with fail
  refine (awake9_any w).mono ?_
  rintro e w0 ⟨rfl, hB0⟩
  have HB0 : Hid (Below w.heap.size w w0) := hB0
  clear hB0
  go_wp2_with fail
  refine (c1 w0).mono ?_
  rintro e w1 ⟨rfl, hB1⟩
  have HB1 : Hid (Below w.heap.size w w1) := bst HB0.out hB1
  clear hB1
  go_wp2_with fail
  refine (c2 w1).mono ?_
  rintro e w2 ⟨rfl, hB2⟩
  have HB2 : Hid (Below w.heap.size w w2) := bst HB1.out hB2
  clear hB2
  go_wp2_with fail
  refine (c3 w2).mono ?_
  rintro e w3 ⟨rfl, hB3⟩
  have HB3 : Hid (Below w.heap.size w w3) := bst HB2.out hB3
  clear hB3
  go_wp2_with fail
  refine (c4 w3).mono ?_
  rintro e w4 ⟨rfl, hB4⟩
  have HB4 : Hid (Below w.heap.size w w4) := bst HB3.out hB4
  clear hB4
  go_wp2
  go_ret
  exact ⟨rfl, HB4.out⟩
set_option maxHeartbeats 2000000 in
theorem sl4a (w : World) (a b x y s u z : Int) (c1 : ∀ W, Calls Try.prog 10 #[.int .i64 4, .int .i64 a] W fun e w' => e = .returned (.tuple #[.int .i64 x, .int .i64 0]) ∧ Below W.heap.size W w') (c2 : ∀ W, Calls Try.prog 10 #[.int .i64 4, .int .i64 b] W fun e w' => e = .returned (.tuple #[.int .i64 y, .int .i64 0]) ∧ Below W.heap.size W w') (c3 : ∀ W, Calls Try.prog 11 #[.int .i64 4, .int .i64 a] W fun e w' => e = .returned (.tuple #[.int .i64 s, .int .i64 0]) ∧ Below W.heap.size W w') (c4 : ∀ W, Calls Try.prog 11 #[.int .i64 4, .int .i64 b] W fun e w' => e = .returned (.tuple #[.int .i64 s, .int .i64 0]) ∧ Below W.heap.size W w') (d1 : decide (a ≥ b) = false) (d2 : decide (a < -1152921504606846976) = false) (d3 : decide (b > 1152921504606846976) = false) (dA : decide (a < 0) = true) (dB : decide (b > 0) = true) :
    Calls Try.prog 7 #[.int .i64 4, .int .i64 a, .int .i64 b] w fun e w' => e = .returned (.bool true) ∧ Below w.heap.size w w' := by
  go_enter Try.func7, Try.ntmps7
  go_wp2_with fail
  refine (awake9_any w).mono ?_
  rintro e w0 ⟨rfl, hB0⟩
  have HB0 : Hid (Below w.heap.size w w0) := hB0
  clear hB0
  go_wp2_with fail
  refine (c1 w0).mono ?_
  rintro e w1 ⟨rfl, hB1⟩
  have HB1 : Hid (Below w.heap.size w w1) := bst HB0.out hB1
  clear hB1
  go_wp2_with fail
  refine (c2 w1).mono ?_
  rintro e w2 ⟨rfl, hB2⟩
  have HB2 : Hid (Below w.heap.size w w2) := bst HB1.out hB2
  clear hB2
  go_wp2_with fail
  refine (c3 w2).mono ?_
  rintro e w3 ⟨rfl, hB3⟩
  have HB3 : Hid (Below w.heap.size w w3) := bst HB2.out hB3
  clear hB3
  go_wp2_with fail
  refine (c4 w3).mono ?_
  rintro e w4 ⟨rfl, hB4⟩
  have HB4 : Hid (Below w.heap.size w w4) := bst HB3.out hB4
  clear hB4
  go_wp2
  go_ret
  exact ⟨rfl, HB4.out⟩
set_option maxHeartbeats 2000000 in
theorem sl4b (w : World) (a b x y s u z : Int) (c1 : ∀ W, Calls Try.prog 10 #[.int .i64 4, .int .i64 a] W fun e w' => e = .returned (.tuple #[.int .i64 x, .int .i64 0]) ∧ Below W.heap.size W w') (c2 : ∀ W, Calls Try.prog 10 #[.int .i64 4, .int .i64 b] W fun e w' => e = .returned (.tuple #[.int .i64 y, .int .i64 0]) ∧ Below W.heap.size W w') (c3 : ∀ W, Calls Try.prog 11 #[.int .i64 4, .int .i64 a] W fun e w' => e = .returned (.tuple #[.int .i64 s, .int .i64 0]) ∧ Below W.heap.size W w') (c4 : ∀ W, Calls Try.prog 11 #[.int .i64 4, .int .i64 b] W fun e w' => e = .returned (.tuple #[.int .i64 s, .int .i64 0]) ∧ Below W.heap.size W w') (d1 : decide (a ≥ b) = false) (d2 : decide (a < -1152921504606846976) = false) (d3 : decide (b > 1152921504606846976) = false) (dA : decide (a < 0) = true) (dB : decide (b > 0) = false) (dL : decide (a ≤ -4294967296) = true) (dH : decide (b ≥ 4294967296) = false) (v1 : wrap64 (y - x) = z) (v2 : wrap64 (b - a) = b - a) (c5 : ∀ W, Calls Try.prog 20 #[.int .i64 (b - a), .int .i64 s] W fun e w' => e = .returned (.int .i64 z) ∧ Below W.heap.size W w') :
    Calls Try.prog 7 #[.int .i64 4, .int .i64 a, .int .i64 b] w fun e w' => e = .returned (.bool true) ∧ Below w.heap.size w w' := by
  go_enter Try.func7, Try.ntmps7
  go_wp2_with fail
  refine (awake9_any w).mono ?_
  rintro e w0 ⟨rfl, hB0⟩
  have HB0 : Hid (Below w.heap.size w w0) := hB0
  clear hB0
  go_wp2_with fail
  refine (c1 w0).mono ?_
  rintro e w1 ⟨rfl, hB1⟩
  have HB1 : Hid (Below w.heap.size w w1) := bst HB0.out hB1
  clear hB1
  go_wp2_with fail
  refine (c2 w1).mono ?_
  rintro e w2 ⟨rfl, hB2⟩
  have HB2 : Hid (Below w.heap.size w w2) := bst HB1.out hB2
  clear hB2
  go_wp2_with fail
  refine (c3 w2).mono ?_
  rintro e w3 ⟨rfl, hB3⟩
  have HB3 : Hid (Below w.heap.size w w3) := bst HB2.out hB3
  clear hB3
  go_wp2_with fail
  refine (c4 w3).mono ?_
  rintro e w4 ⟨rfl, hB4⟩
  have HB4 : Hid (Below w.heap.size w w4) := bst HB3.out hB4
  clear hB4
  go_wp2_with fail
  refine (c5 w4).mono ?_
  rintro e w5 ⟨rfl, hB5⟩
  have HB5 : Hid (Below w.heap.size w w5) := bst HB4.out hB5
  clear hB5
  go_wp2
  go_ret
  exact ⟨rfl, HB5.out⟩
set_option maxHeartbeats 2000000 in
theorem sl4c (w : World) (a b x y s u z : Int) (c1 : ∀ W, Calls Try.prog 10 #[.int .i64 4, .int .i64 a] W fun e w' => e = .returned (.tuple #[.int .i64 x, .int .i64 0]) ∧ Below W.heap.size W w') (c2 : ∀ W, Calls Try.prog 10 #[.int .i64 4, .int .i64 b] W fun e w' => e = .returned (.tuple #[.int .i64 y, .int .i64 0]) ∧ Below W.heap.size W w') (c3 : ∀ W, Calls Try.prog 11 #[.int .i64 4, .int .i64 a] W fun e w' => e = .returned (.tuple #[.int .i64 s, .int .i64 0]) ∧ Below W.heap.size W w') (c4 : ∀ W, Calls Try.prog 11 #[.int .i64 4, .int .i64 b] W fun e w' => e = .returned (.tuple #[.int .i64 s, .int .i64 0]) ∧ Below W.heap.size W w') (d1 : decide (a ≥ b) = false) (d2 : decide (a < -1152921504606846976) = false) (d3 : decide (b > 1152921504606846976) = false) (dA : decide (a < 0) = true) (dB : decide (b > 0) = false) (dL : decide (a ≤ -4294967296) = false) (v1 : wrap64 (y - x) = z) (v2 : wrap64 (b - a) = b - a) (c5 : ∀ W, Calls Try.prog 20 #[.int .i64 (b - a), .int .i64 s] W fun e w' => e = .returned (.int .i64 z) ∧ Below W.heap.size W w') :
    Calls Try.prog 7 #[.int .i64 4, .int .i64 a, .int .i64 b] w fun e w' => e = .returned (.bool true) ∧ Below w.heap.size w w' := by
  go_enter Try.func7, Try.ntmps7
  go_wp2_with fail
  refine (awake9_any w).mono ?_
  rintro e w0 ⟨rfl, hB0⟩
  have HB0 : Hid (Below w.heap.size w w0) := hB0
  clear hB0
  go_wp2_with fail
  refine (c1 w0).mono ?_
  rintro e w1 ⟨rfl, hB1⟩
  have HB1 : Hid (Below w.heap.size w w1) := bst HB0.out hB1
  clear hB1
  go_wp2_with fail
  refine (c2 w1).mono ?_
  rintro e w2 ⟨rfl, hB2⟩
  have HB2 : Hid (Below w.heap.size w w2) := bst HB1.out hB2
  clear hB2
  go_wp2_with fail
  refine (c3 w2).mono ?_
  rintro e w3 ⟨rfl, hB3⟩
  have HB3 : Hid (Below w.heap.size w w3) := bst HB2.out hB3
  clear hB3
  go_wp2_with fail
  refine (c4 w3).mono ?_
  rintro e w4 ⟨rfl, hB4⟩
  have HB4 : Hid (Below w.heap.size w w4) := bst HB3.out hB4
  clear hB4
  go_wp2_with fail
  refine (c5 w4).mono ?_
  rintro e w5 ⟨rfl, hB5⟩
  have HB5 : Hid (Below w.heap.size w w5) := bst HB4.out hB5
  clear hB5
  go_wp2
  go_ret
  exact ⟨rfl, HB5.out⟩
set_option maxHeartbeats 2000000 in
theorem sl4d (w : World) (a b x y s u z : Int) (c1 : ∀ W, Calls Try.prog 10 #[.int .i64 4, .int .i64 a] W fun e w' => e = .returned (.tuple #[.int .i64 x, .int .i64 0]) ∧ Below W.heap.size W w') (c2 : ∀ W, Calls Try.prog 10 #[.int .i64 4, .int .i64 b] W fun e w' => e = .returned (.tuple #[.int .i64 y, .int .i64 0]) ∧ Below W.heap.size W w') (c3 : ∀ W, Calls Try.prog 11 #[.int .i64 4, .int .i64 a] W fun e w' => e = .returned (.tuple #[.int .i64 s, .int .i64 0]) ∧ Below W.heap.size W w') (c4 : ∀ W, Calls Try.prog 11 #[.int .i64 4, .int .i64 b] W fun e w' => e = .returned (.tuple #[.int .i64 s, .int .i64 0]) ∧ Below W.heap.size W w') (d1 : decide (a ≥ b) = false) (d2 : decide (a < -1152921504606846976) = false) (d3 : decide (b > 1152921504606846976) = false) (dA : decide (a < 0) = false) (dL : decide (a ≤ -4294967296) = false) (v1 : wrap64 (y - x) = z) (v2 : wrap64 (b - a) = b - a) (c5 : ∀ W, Calls Try.prog 20 #[.int .i64 (b - a), .int .i64 s] W fun e w' => e = .returned (.int .i64 z) ∧ Below W.heap.size W w') :
    Calls Try.prog 7 #[.int .i64 4, .int .i64 a, .int .i64 b] w fun e w' => e = .returned (.bool true) ∧ Below w.heap.size w w' := by
  go_enter Try.func7, Try.ntmps7
  go_wp2_with fail
  refine (awake9_any w).mono ?_
  rintro e w0 ⟨rfl, hB0⟩
  have HB0 : Hid (Below w.heap.size w w0) := hB0
  clear hB0
  go_wp2_with fail
  refine (c1 w0).mono ?_
  rintro e w1 ⟨rfl, hB1⟩
  have HB1 : Hid (Below w.heap.size w w1) := bst HB0.out hB1
  clear hB1
  go_wp2_with fail
  refine (c2 w1).mono ?_
  rintro e w2 ⟨rfl, hB2⟩
  have HB2 : Hid (Below w.heap.size w w2) := bst HB1.out hB2
  clear hB2
  go_wp2_with fail
  refine (c3 w2).mono ?_
  rintro e w3 ⟨rfl, hB3⟩
  have HB3 : Hid (Below w.heap.size w w3) := bst HB2.out hB3
  clear hB3
  go_wp2_with fail
  refine (c4 w3).mono ?_
  rintro e w4 ⟨rfl, hB4⟩
  have HB4 : Hid (Below w.heap.size w w4) := bst HB3.out hB4
  clear hB4
  go_wp2_with fail
  refine (c5 w4).mono ?_
  rintro e w5 ⟨rfl, hB5⟩
  have HB5 : Hid (Below w.heap.size w w5) := bst HB4.out hB5
  clear hB5
  go_wp2
  go_ret
  exact ⟨rfl, HB5.out⟩
set_option maxHeartbeats 2000000 in
theorem sl4s (w : World) (a b x y s u z : Int) (c1 : ∀ W, Calls Try.prog 10 #[.int .i64 4, .int .i64 a] W fun e w' => e = .returned (.tuple #[.int .i64 x, .int .i64 0]) ∧ Below W.heap.size W w') (c2 : ∀ W, Calls Try.prog 10 #[.int .i64 4, .int .i64 b] W fun e w' => e = .returned (.tuple #[.int .i64 y, .int .i64 0]) ∧ Below W.heap.size W w') (c3 : ∀ W, Calls Try.prog 11 #[.int .i64 4, .int .i64 a] W fun e w' => e = .returned (.tuple #[.int .i64 s, .int .i64 0]) ∧ Below W.heap.size W w') (c4 : ∀ W, Calls Try.prog 11 #[.int .i64 4, .int .i64 b] W fun e w' => e = .returned (.tuple #[.int .i64 u, .int .i64 0]) ∧ Below W.heap.size W w') (d1 : decide (a ≥ b) = false) (d2 : decide (a < -1152921504606846976) = false) (d3 : decide (b > 1152921504606846976) = false) (ds : (s != u) = true) :
    Calls Try.prog 7 #[.int .i64 4, .int .i64 a, .int .i64 b] w fun e w' => e = .returned (.bool true) ∧ Below w.heap.size w w' := by
  go_enter Try.func7, Try.ntmps7
  go_wp2_with fail
  refine (awake9_any w).mono ?_
  rintro e w0 ⟨rfl, hB0⟩
  have HB0 : Hid (Below w.heap.size w w0) := hB0
  clear hB0
  go_wp2_with fail
  refine (c1 w0).mono ?_
  rintro e w1 ⟨rfl, hB1⟩
  have HB1 : Hid (Below w.heap.size w w1) := bst HB0.out hB1
  clear hB1
  go_wp2_with fail
  refine (c2 w1).mono ?_
  rintro e w2 ⟨rfl, hB2⟩
  have HB2 : Hid (Below w.heap.size w w2) := bst HB1.out hB2
  clear hB2
  go_wp2_with fail
  refine (c3 w2).mono ?_
  rintro e w3 ⟨rfl, hB3⟩
  have HB3 : Hid (Below w.heap.size w w3) := bst HB2.out hB3
  clear hB3
  go_wp2_with fail
  refine (c4 w3).mono ?_
  rintro e w4 ⟨rfl, hB4⟩
  have HB4 : Hid (Below w.heap.size w w4) := bst HB3.out hB4
  clear hB4
  go_wp2
  go_ret
  exact ⟨rfl, HB4.out⟩
theorem bend_near {k a : Int} (hk : k = 1 ∨ k = 3 ∨ k = 4) (h : -1152921504606846976 ≤ a ∧ a ≤ 1152921504606846976) : -1152921504606846976 ≤ bendI k a ∧ bendI k a ≤ 1152921504606846976 := by
  rcases hk with rfl | rfl | rfl
  · rw [bend_1]
    split <;> omega
  · rw [bend_3]
    split
    · omega
    · split <;> omega
  · rw [bend_4]
    split
    · rw [hold_in (by omega) (by omega)]
      omega
    · omega
theorem slopes_one (k : Int) (hk : k = 1 ∨ k = 3 ∨ k = 4) (w : World) (a b : Int) (ha : -9223372036854775808 ≤ a ∧ a ≤ 9223372036854775807) (hb : -9223372036854775808 ≤ b ∧ b ≤ 9223372036854775807) (hab : a < b) (ha1 : -1152921504606846976 ≤ a) (hb1 : b ≤ 1152921504606846976) :
    Calls Try.prog 7 #[.int .i64 k, .int .i64 a, .int .i64 b] w fun e w' => e = .returned (.bool true) ∧ Below w.heap.size w w' := by
  obtain ⟨x, ex⟩ : ∃ x, bendI k a = x := ⟨_, rfl⟩
  obtain ⟨y, ey⟩ : ∃ y, bendI k b = y := ⟨_, rfl⟩
  obtain ⟨s, es⟩ : ∃ s, slopeI k a = s := ⟨_, rfl⟩
  obtain ⟨u, eu⟩ : ∃ u, slopeI k b = u := ⟨_, rfl⟩
  have c1 := of_ok ⟨by omega, by omega⟩ ha ex
  have c2 := of_ok ⟨by omega, by omega⟩ hb ey
  have c3 := slope_ok ⟨by omega, by omega⟩ ha es
  have c4 := slope_ok ⟨by omega, by omega⟩ hb eu
  have rs : InR s := by rw [← es]; exact slope_rng _ _
  have rx := bend_near hk ⟨ha1, by omega⟩
  have ry := bend_near (a := b) hk ⟨by omega, hb1⟩
  rw [ex] at rx
  rw [ey] at ry
  have d1 : decide (a ≥ b) = false := decide_eq_false (by omega)
  have d2 : decide (a < -1152921504606846976) = false := decide_eq_false (by omega)
  have d3 : decide (b > 1152921504606846976) = false := decide_eq_false (by omega)
  by_cases hsu : s = u
  · subst hsu
    have key : ¬ (a < 0 ∧ 0 < b ∧ k ≠ 3) → ¬ (a ≤ -4294967296 ∧ 4294967296 ≤ b) → y - x = mulI (b - a) s := fun h1 h2 => by rw [← ex, ← ey, bend_slope hk hab ha1 hb1 (by rw [es, eu]) h1 h2, es]
    have c5 : ∀ W, Calls Try.prog 20 #[.int .i64 (b - a), .int .i64 s] W fun e w' => e = .returned (.int .i64 (mulI (b - a) s)) ∧ Below W.heap.size W w' := fun W => Rf.mul_ref (b - a) s (by unfold InR; omega) rs _ rfl W
    have v2 : wrap64 (b - a) = b - a := by unfold wrap64; omega
    have v1 : wrap64 (y - x) = y - x := by unfold wrap64; omega
    rcases hk with rfl | rfl | rfl
    · by_cases hA : a < 0
      · by_cases hB : 0 < b
        · exact sl1a w a b x y s s 0 c1 c2 c3 c4 d1 d2 d3 (decide_eq_true hA) (decide_eq_true hB)
        · have e := key (fun h => hB h.2.1) (fun h => by omega)
          replace v1 := v1.trans e
          by_cases hL : a ≤ -4294967296
          · exact sl1b w a b x y s s _ c1 c2 c3 c4 d1 d2 d3 (decide_eq_true hA) (decide_eq_false (by omega)) (decide_eq_true hL) (decide_eq_false (by omega)) v1 v2 c5
          · exact sl1c w a b x y s s _ c1 c2 c3 c4 d1 d2 d3 (decide_eq_true hA) (decide_eq_false (by omega)) (decide_eq_false hL) v1 v2 c5
      · have e := key (fun h => hA h.1) (fun h => by omega)
        replace v1 := v1.trans e
        exact sl1d w a b x y s s _ c1 c2 c3 c4 d1 d2 d3 (decide_eq_false hA) (decide_eq_false (by omega)) v1 v2 c5
    · by_cases hA : a < 0
      · by_cases hB : 0 < b
        · by_cases hL : a ≤ -4294967296
          · by_cases hH : 4294967296 ≤ b
            · exact sl3a w a b x y s s 0 c1 c2 c3 c4 d1 d2 d3 (decide_eq_true hA) (decide_eq_true hB) (decide_eq_true hL) (decide_eq_true hH)
            · have e := key (fun h => h.2.2 rfl) (fun h => hH h.2)
              replace v1 := v1.trans e
              exact sl3b w a b x y s s _ c1 c2 c3 c4 d1 d2 d3 (decide_eq_true hA) (decide_eq_true hB) (decide_eq_true hL) (decide_eq_false hH) v1 v2 c5
          · have e := key (fun h => h.2.2 rfl) (fun h => hL h.1)
            replace v1 := v1.trans e
            exact sl3c w a b x y s s _ c1 c2 c3 c4 d1 d2 d3 (decide_eq_true hA) (decide_eq_true hB) (decide_eq_false hL) v1 v2 c5
        · have e := key (fun h => hB h.2.1) (fun h => by omega)
          replace v1 := v1.trans e
          by_cases hL : a ≤ -4294967296
          · exact sl3d w a b x y s s _ c1 c2 c3 c4 d1 d2 d3 (decide_eq_true hA) (decide_eq_false (by omega)) (decide_eq_true hL) (decide_eq_false (by omega)) v1 v2 c5
          · exact sl3e w a b x y s s _ c1 c2 c3 c4 d1 d2 d3 (decide_eq_true hA) (decide_eq_false (by omega)) (decide_eq_false hL) v1 v2 c5
      · have e := key (fun h => hA h.1) (fun h => by omega)
        replace v1 := v1.trans e
        exact sl3f w a b x y s s _ c1 c2 c3 c4 d1 d2 d3 (decide_eq_false hA) (decide_eq_false (by omega)) v1 v2 c5
    · by_cases hA : a < 0
      · by_cases hB : 0 < b
        · exact sl4a w a b x y s s 0 c1 c2 c3 c4 d1 d2 d3 (decide_eq_true hA) (decide_eq_true hB)
        · have e := key (fun h => hB h.2.1) (fun h => by omega)
          replace v1 := v1.trans e
          by_cases hL : a ≤ -4294967296
          · exact sl4b w a b x y s s _ c1 c2 c3 c4 d1 d2 d3 (decide_eq_true hA) (decide_eq_false (by omega)) (decide_eq_true hL) (decide_eq_false (by omega)) v1 v2 c5
          · exact sl4c w a b x y s s _ c1 c2 c3 c4 d1 d2 d3 (decide_eq_true hA) (decide_eq_false (by omega)) (decide_eq_false hL) v1 v2 c5
      · have e := key (fun h => hA h.1) (fun h => by omega)
        replace v1 := v1.trans e
        exact sl4d w a b x y s s _ c1 c2 c3 c4 d1 d2 d3 (decide_eq_false hA) (decide_eq_false (by omega)) v1 v2 c5
  · rcases hk with rfl | rfl | rfl
    · exact sl1s w a b x y s u 0 c1 c2 c3 c4 d1 d2 d3 (by simpa using hsu)
    · exact sl3s w a b x y s u 0 c1 c2 c3 c4 d1 d2 d3 (by simpa using hsu)
    · exact sl4s w a b x y s u 0 c1 c2 c3 c4 d1 d2 d3 (by simpa using hsu)
set_option maxHeartbeats 4000000 in
theorem slopes_walk (w : World) (k a b : Int) (hk : -9223372036854775808 ≤ k ∧ k ≤ 9223372036854775807) (ha : -9223372036854775808 ≤ a ∧ a ≤ 9223372036854775807) (hb : -9223372036854775808 ≤ b ∧ b ≤ 9223372036854775807) :
    Calls Try.prog 7 #[.int .i64 k, .int .i64 a, .int .i64 b] w fun e w' => e = .returned (.bool true) ∧ Below w.heap.size w w' := by
  by_cases hk3 : k = 1 ∨ k = 3 ∨ k = 4
  · by_cases hab : a < b
    · by_cases ha1 : a < -1152921504606846976
      · have d1 : decide (a ≥ b) = false := decide_eq_false (by omega)
        have d2 : decide (a < -1152921504606846976) = true := decide_eq_true ha1
        clear hk ha hb hab ha1
        rcases hk3 with rfl | rfl | rfl
        · go_enter Try.func7, Try.ntmps7
          go_wp2_with fail
          refine (awake9_any w).mono ?_
          rintro e w0 ⟨rfl, hB0⟩
          have HB0 : Hid (Below w.heap.size w w0) := hB0
          clear hB0
          go_wp2
          go_ret
          exact ⟨rfl, HB0.out⟩
        · go_enter Try.func7, Try.ntmps7
          go_wp2_with fail
          refine (awake9_any w).mono ?_
          rintro e w0 ⟨rfl, hB0⟩
          have HB0 : Hid (Below w.heap.size w w0) := hB0
          clear hB0
          go_wp2
          go_ret
          exact ⟨rfl, HB0.out⟩
        · go_enter Try.func7, Try.ntmps7
          go_wp2_with fail
          refine (awake9_any w).mono ?_
          rintro e w0 ⟨rfl, hB0⟩
          have HB0 : Hid (Below w.heap.size w w0) := hB0
          clear hB0
          go_wp2
          go_ret
          exact ⟨rfl, HB0.out⟩
      · by_cases hb1 : 1152921504606846976 < b
        · have d1 : decide (a ≥ b) = false := decide_eq_false (by omega)
          have d2 : decide (a < -1152921504606846976) = false := decide_eq_false ha1
          have d3 : decide (b > 1152921504606846976) = true := decide_eq_true hb1
          clear hk ha hb hab ha1 hb1
          rcases hk3 with rfl | rfl | rfl
          · go_enter Try.func7, Try.ntmps7
            go_wp2_with fail
            refine (awake9_any w).mono ?_
            rintro e w0 ⟨rfl, hB0⟩
            have HB0 : Hid (Below w.heap.size w w0) := hB0
            clear hB0
            go_wp2
            go_ret
            exact ⟨rfl, HB0.out⟩
          · go_enter Try.func7, Try.ntmps7
            go_wp2_with fail
            refine (awake9_any w).mono ?_
            rintro e w0 ⟨rfl, hB0⟩
            have HB0 : Hid (Below w.heap.size w w0) := hB0
            clear hB0
            go_wp2
            go_ret
            exact ⟨rfl, HB0.out⟩
          · go_enter Try.func7, Try.ntmps7
            go_wp2_with fail
            refine (awake9_any w).mono ?_
            rintro e w0 ⟨rfl, hB0⟩
            have HB0 : Hid (Below w.heap.size w w0) := hB0
            clear hB0
            go_wp2
            go_ret
            exact ⟨rfl, HB0.out⟩
        · exact slopes_one k hk3 w a b ha hb hab (by omega) (by omega)
    · have d1 : decide (a ≥ b) = true := decide_eq_true (by omega)
      clear hk ha hb hab
      rcases hk3 with rfl | rfl | rfl
      · go_enter Try.func7, Try.ntmps7
        go_wp2_with fail
        refine (awake9_any w).mono ?_
        rintro e w0 ⟨rfl, hB0⟩
        have HB0 : Hid (Below w.heap.size w w0) := hB0
        clear hB0
        go_wp2
        go_ret
        exact ⟨rfl, HB0.out⟩
      · go_enter Try.func7, Try.ntmps7
        go_wp2_with fail
        refine (awake9_any w).mono ?_
        rintro e w0 ⟨rfl, hB0⟩
        have HB0 : Hid (Below w.heap.size w w0) := hB0
        clear hB0
        go_wp2
        go_ret
        exact ⟨rfl, HB0.out⟩
      · go_enter Try.func7, Try.ntmps7
        go_wp2_with fail
        refine (awake9_any w).mono ?_
        rintro e w0 ⟨rfl, hB0⟩
        have HB0 : Hid (Below w.heap.size w w0) := hB0
        clear hB0
        go_wp2
        go_ret
        exact ⟨rfl, HB0.out⟩
  · have k1 : (k != 1) = true := by simp; omega
    have k3 : (k != 3) = true := by simp; omega
    have k4 : (k != 4) = true := by simp; omega
    clear hk ha hb hk3
    go_enter Try.func7, Try.ntmps7
    go_wp2_with fail
    refine (awake9_any w).mono ?_
    rintro e w0 ⟨rfl, hB0⟩
    have HB0 : Hid (Below w.heap.size w w0) := hB0
    clear hB0
    go_wp2
    go_ret
    exact ⟨rfl, HB0.out⟩
end Go.Proofs.Ytlehlikgehbnfaa.Wd
