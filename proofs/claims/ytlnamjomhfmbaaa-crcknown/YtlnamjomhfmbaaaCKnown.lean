/- The law CrcKnown. -/
import Derived.Test.YtlnamjomhfmbaaaCrcC
namespace Go.Proofs.Ytlnamjomhfmbaaa.Wd
open Go.RowKit
set_option linter.unusedVariables false
set_option linter.unusedSimpArgs false
set_option maxHeartbeats 1000000 in
theorem cknown_walk (w : World) :
    Calls Try.prog 3 #[] w fun e w' => e = .returned (.bool true) ∧ Below w.heap.size w w' := by
  have kc := conv_same
  go_enter Try.func3, Try.ntmps3
  go_wp2_with fail
  refine (cawake_any w).mono ?_
  rintro e w1 ⟨rfl, B1⟩
  go_wp2_with fail
  refine (of_any _ [0] (by decide) (by decide) _ (lit8 w1 _ 1 _ rfl)).mono ?_
  rw [zero1]
  rintro e w2 ⟨rfl, hw⟩
  have B2 : Below w.heap.size w w2 := by rw [hw]; exact B1.alloc B1.size _
  clear hw
  go_wp2_with fail
  refine (of_any _ [97] (by decide) (by decide) _ (lit8 w2 _ 1 _ rfl)).mono ?_
  rw [a1]
  rintro e w3 ⟨rfl, rfl⟩
  go_wp2_with fail
  refine (more_any 7 (by decide) _ [] (by decide) (by decide) _ (.inl ⟨rfl, rfl⟩)).mono ?_
  rw [seven]
  rintro e w4 ⟨rfl, rfl⟩
  go_wp2
  go_ret
  exact ⟨rfl, B2.alloc B2.size _⟩
end Go.Proofs.Ytlnamjomhfmbaaa.Wd
