/- The contracts of package fix with the answer under a name of the caller's. -/
import Derived.Test.YtokjokgmmkancaaDoorAwake
import Derived.Test.YtokjokgmmkancaaDoorFacts
namespace Go.Proofs.YtokjokgmmkancaaDoor.Fx
open Go.RowKit Kn
set_option linter.unusedVariables false
theorem mul_at (a b y : Int) (ha : InR a) (hb : InR b) (ey : mulI a b = y) (w : World) :
    Calls Tryd.prog 15 #[.int .i64 a, .int .i64 b] w fun e w' => e = .returned (.int .i64 y) ∧ w' = w := by
  subst ey
  exact mul_any a b ha hb w
theorem add_at (a b y : Int) (ha : InR a) (hb : InR b) (ey : hold (a + b) = y) (w : World) :
    Calls Tryd.prog 10 #[.int .i64 a, .int .i64 b] w fun e w' => e = .returned (.int .i64 y) ∧ w' = w := by
  subst ey
  exact add_any a b ha hb w
theorem sub_at (a b y : Int) (ha : InR a) (hb : InR b) (ey : hold (a - b) = y) (w : World) :
    Calls Tryd.prog 11 #[.int .i64 a, .int .i64 b] w fun e w' => e = .returned (.int .i64 y) ∧ w' = w := by
  subst ey
  exact sub_any a b ha hb w
theorem div_at (a b y : Int) (ha : InR a) (hb : InR b) (ey : divI a b = y) (w : World) :
    Calls Tryd.prog 13 #[.int .i64 a, .int .i64 b] w fun e w' => e = .returned (.int .i64 y) ∧ ∃ n, w' = w.drewN n := by
  subst ey
  exact div_any a b ha hb w
theorem of_at (n y : Int) (hn : InR n) (ey : hold (n * 4294967296) = y) (w : World) :
    Calls Tryd.prog 14 #[.int .i64 n] w fun e w' => e = .returned (.int .i64 y) ∧ w' = w := by
  subst ey
  exact of_any n hn w
end Go.Proofs.YtokjokgmmkancaaDoor.Fx
