/- The law FixNear: a product that is not held is off the exact one by half a part at most: for all numbers. -/
import Derived.Test.YtokjokgmmkancaaDoorAwake
import Derived.Test.YtokjokgmmkancaaDoorFacts
namespace Go.Proofs.YtokjokgmmkancaaDoor.Fx
open Go.RowKit Kn
set_option linter.unusedVariables false
theorem mul_at (a b y : Int) (ha : InR a) (hb : InR b) (ey : mulI a b = y) (w : World) :
    Calls Tryd.prog 15 #[.int .i64 a, .int .i64 b] w fun e w' => e = .returned (.int .i64 y) ∧ w' = w := by
  subst ey
  exact mul_any a b ha hb w
theorem near_at (a b x y : Int) (ha : -2147483648 ≤ a ∧ a ≤ 2147483647) (hb : -2147483648 ≤ b ∧ b ≤ 2147483647) (ex : a * b = x) (hx : -4611686018427387904 ≤ x ∧ x ≤ 4611686018427387904) (ey : Hid (mulI a b = y))
    (hy : -1073741824 ≤ y ∧ y ≤ 1073741824) (h1 : x - y * 4294967296 ≤ 2147483648) (h2 : -2147483648 ≤ x - y * 4294967296) (h3 : Hid (x - y * 4294967296 = 2147483648 ∨ x - y * 4294967296 = -2147483648 → y % 2 = 0)) (w : World) :
    Calls Tryd.prog 8 #[.int .i32 a, .int .i32 b] w fun e w' => e = .returned (.bool true) ∧ Below w.heap.size w w' := by
  have e4 : bits .and .i64 y 1 = y % 2 := and_one y
  have ha' : InR a := by unfold InR; omega
  have hb' : InR b := by unfold InR; omega
  have key : (x - y * 4294967296 = 2147483648 ∧ y % 2 = 0) ∨ (x - y * 4294967296 < 2147483648 ∧ x - y * 4294967296 = -2147483648 ∧ y % 2 = 0) ∨ (x - y * 4294967296 < 2147483648 ∧ -2147483648 < x - y * 4294967296) := by
    have := h3.out
    omega
  rcases key with ⟨k1, k2⟩ | ⟨k1, k2, k3⟩ | ⟨k1, k2⟩
  all_goals
    go_enter Tryd.func8, Tryd.ntmps8
    go_wp2_with fail
    refine (awake_any _).mono ?_
    rintro e w1 ⟨rfl, hb1⟩
    go_wp2_with fail
    refine (mul_at a b y ha' hb' ey.out _).mono ?_
    rintro e w2 ⟨rfl, rfl⟩
    go_wp2
    go_ret
    exact ⟨rfl, hb1⟩
theorem near_any (a b : Int) (ha : -2147483648 ≤ a ∧ a ≤ 2147483647) (hb : -2147483648 ≤ b ∧ b ≤ 2147483647) (w : World) :
    Calls Tryd.prog 8 #[.int .i32 a, .int .i32 b] w fun e w' => e = .returned (.bool true) ∧ Below w.heap.size w w' := by
  obtain ⟨h1, h2, h3, h4, h5⟩ := mul_small a b ha hb
  exact near_at a b (a * b) (mulI a b) ha hb rfl h1 rfl h2 h3 h4 h5 w
end Go.Proofs.YtokjokgmmkancaaDoor.Fx
