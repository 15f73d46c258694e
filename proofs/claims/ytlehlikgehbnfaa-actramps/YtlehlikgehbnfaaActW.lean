/- The laws' own helper awake: it tells true. -/
import Derived.Test.YtlehlikgehbnfaaActA
namespace Go.Proofs.Ytlehlikgehbnfaa.Fx
open Go.RowKit
set_option linter.unusedVariables false
set_option linter.unusedSimpArgs false
set_option maxHeartbeats 1000000 in
theorem awake9_any (w : World) :
    Calls Try.prog 9 #[] w fun e w' => e = .returned (.bool true) ∧ Below w.heap.size w w' := by
  have c1 : ∀ W, Calls Try.prog 10 #[.int .i64 1, .int .i64 (-4294967296)] W fun e w' => e = .returned (.tuple #[.int .i64 0, .int .i64 0]) ∧ Below W.heap.size W w' := fun W => by
    have c := aof_any 1 (-4294967296) (by unfold InR; omega) W
    rw [show ofV 1 (-4294967296) = 0 by decide, show kE 1 = 0 by decide] at c
    exact c
  have c2 : ∀ W, Calls Try.prog 10 #[.int .i64 1, .int .i64 4294967296] W fun e w' => e = .returned (.tuple #[.int .i64 4294967296, .int .i64 0]) ∧ Below W.heap.size W w' := fun W => by
    have c := aof_any 1 4294967296 (by unfold InR; omega) W
    rw [show ofV 1 4294967296 = 4294967296 by decide, show kE 1 = 0 by decide] at c
    exact c
  have c3 : ∀ W, Calls Try.prog 11 #[.int .i64 2, .int .i64 (-4294967296)] W fun e w' => e = .returned (.tuple #[.int .i64 536870912, .int .i64 0]) ∧ Below W.heap.size W w' := fun W => by
    have c := aslope_any 2 (-4294967296) (by unfold InR; omega) W
    rw [show slV 2 (-4294967296) = 536870912 by decide, show kE 2 = 0 by decide] at c
    exact c
  go_enter Try.func9, Try.ntmps9
  go_wp2_with fail
  refine (c1 w).mono ?_
  rintro e w0 ⟨rfl, hB0⟩
  have HB0 : Hid (Below w.heap.size w w0) := hB0
  clear hB0
  go_wp2_with fail
  refine (c2 w0).mono ?_
  rintro e w1 ⟨rfl, hB1⟩
  have HB1 : Hid (Below w.heap.size w w1) := bst HB0.out hB1
  clear hB1
  go_wp2_with fail
  refine (c3 w1).mono ?_
  rintro e w2 ⟨rfl, hB2⟩
  have HB2 : Hid (Below w.heap.size w w2) := bst HB1.out hB2
  clear hB2
  go_wp2
  go_ret
  exact ⟨rfl, HB2.out⟩
theorem of_ok {k x y : Int} (hk : 1 ≤ k ∧ k ≤ 5) (hx : InR x) (ey : bendI k x = y) : ∀ W, Calls Try.prog 10 #[.int .i64 k, .int .i64 x] W fun e w' => e = .returned (.tuple #[.int .i64 y, .int .i64 0]) ∧ Below W.heap.size W w' := fun W => by
  have c := aof_any k x hx W
  unfold ofV kE at c
  rw [if_pos hk, if_pos hk, ey] at c
  exact c
theorem slope_ok {k x y : Int} (hk : 1 ≤ k ∧ k ≤ 5) (hx : InR x) (ey : slopeI k x = y) : ∀ W, Calls Try.prog 11 #[.int .i64 k, .int .i64 x] W fun e w' => e = .returned (.tuple #[.int .i64 y, .int .i64 0]) ∧ Below W.heap.size W w' := fun W => by
  have c := aslope_any k x hx W
  unfold slV kE at c
  rw [if_pos hk, if_pos hk, ey] at c
  exact c
end Go.Proofs.Ytlehlikgehbnfaa.Fx
