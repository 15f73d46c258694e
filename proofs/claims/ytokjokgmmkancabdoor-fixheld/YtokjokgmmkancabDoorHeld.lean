/- The law FixHeld: what would be beyond the ends is held there: a sum of two of one sign never turns its sign: for all numbers. -/
import Derived.Test.YtokjokgmmkancabDoorNamed
namespace Go.Proofs.YtokjokgmmkancabDoor.Fx
open Go.RowKit Kn
set_option linter.unusedVariables false
theorem held_law (a b : Int) (ha : InR a) (hb : InR b) (w : World) :
    Calls Tryd.prog 3 #[.int .i64 a, .int .i64 b] w fun e w' => e = .returned (.bool true) ∧ Below w.heap.size w w' := by
  obtain ⟨s, es⟩ : ∃ s, hold (a + b) = s := ⟨_, rfl⟩
  have ha' : -9223372036854775808 ≤ a ∧ a ≤ 9223372036854775807 := ha
  have hb' : -9223372036854775808 ≤ b ∧ b ≤ 9223372036854775807 := hb
  have key : (0 ≤ a ∧ 0 ≤ b ∧ a ≤ s ∧ b ≤ s) ∨ (0 ≤ a ∧ b < 0 ∧ a ≤ 0 ∧ s ≤ a ∧ s ≤ b) ∨ (0 ≤ a ∧ b < 0 ∧ 0 < a ∧ Hid (s = a + b)) ∨ (a < 0 ∧ b ≤ 0 ∧ s ≤ a ∧ s ≤ b) ∨ (a < 0 ∧ 0 < b ∧ Hid (s = a + b)) := by
    unfold hold at es
    have : (0 ≤ a ∧ 0 ≤ b ∧ a ≤ s ∧ b ≤ s) ∨ (0 ≤ a ∧ b < 0 ∧ a ≤ 0 ∧ s ≤ a ∧ s ≤ b) ∨ (0 ≤ a ∧ b < 0 ∧ 0 < a ∧ s = a + b) ∨ (a < 0 ∧ b ≤ 0 ∧ s ≤ a ∧ s ≤ b) ∨ (a < 0 ∧ 0 < b ∧ s = a + b) := by
      split at es <;> (try split at es) <;> omega
    exact this
  have E : Hid (hold (a + b) = s) := es
  clear es
  rcases key with ⟨k1, k2, k3, k4⟩ | ⟨k1, k2, k3, k4, k5⟩ | ⟨k1, k2, k3, k4⟩ | ⟨k1, k2, k3, k4⟩ | ⟨k1, k2, k3⟩
  · go_enter Tryd.func3, Tryd.ntmps3
    go_wp2_with fail
    refine (awake_any _).mono ?_
    rintro e w1 ⟨rfl, hb1⟩
    go_wp2_with fail
    refine (add_at a b s ha hb E.out _).mono ?_
    rintro e w2 ⟨rfl, rfl⟩
    go_wp2
    go_ret
    exact ⟨rfl, hb1⟩
  · go_enter Tryd.func3, Tryd.ntmps3
    go_wp2_with fail
    refine (awake_any _).mono ?_
    rintro e w1 ⟨rfl, hb1⟩
    go_wp2_with fail
    refine (add_at a b s ha hb E.out _).mono ?_
    rintro e w2 ⟨rfl, rfl⟩
    go_wp2
    go_ret
    exact ⟨rfl, hb1⟩
  · have k5 : Hid (hold (a + b) = a + b) := by have := k4.out; have := E.out; show hold (a + b) = a + b; omega
    clear k4
    go_enter Tryd.func3, Tryd.ntmps3
    go_wp2_with fail
    refine (awake_any _).mono ?_
    rintro e w1 ⟨rfl, hb1⟩
    go_wp2_with fail
    refine (add_at a b (a + b) ha hb k5.out _).mono ?_
    rintro e w2 ⟨rfl, rfl⟩
    go_wp2
    go_ret
    exact ⟨rfl, hb1⟩
  · go_enter Tryd.func3, Tryd.ntmps3
    go_wp2_with fail
    refine (awake_any _).mono ?_
    rintro e w1 ⟨rfl, hb1⟩
    go_wp2_with fail
    refine (add_at a b s ha hb E.out _).mono ?_
    rintro e w2 ⟨rfl, rfl⟩
    go_wp2
    go_ret
    exact ⟨rfl, hb1⟩
  · have k5 : Hid (hold (a + b) = a + b) := by have := k3.out; have := E.out; show hold (a + b) = a + b; omega
    clear k3
    go_enter Tryd.func3, Tryd.ntmps3
    go_wp2_with fail
    refine (awake_any _).mono ?_
    rintro e w1 ⟨rfl, hb1⟩
    go_wp2_with fail
    refine (add_at a b (a + b) ha hb k5.out _).mono ?_
    rintro e w2 ⟨rfl, rfl⟩
    go_wp2
    go_ret
    exact ⟨rfl, hb1⟩
end Go.Proofs.YtokjokgmmkancabDoor.Fx
