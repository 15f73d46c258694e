/- What package shape's From hands back. The law's awake. -/
import Derived.Test.YtimbidiogcfpeaaShpA
import Derived.Test.YtimbidiogcfpeaaShpM
namespace Go.Proofs.Ytimbidiogcfpeaa.Wd
open Go.RowKit
set_option linter.unusedVariables false
set_option linter.unusedSimpArgs false
theorem RI_joinL (a b : List Int) : RI (joinL a b) := fun y hy => by have := joinL_rng a b y hy; omega
theorem below_drew {w w1 : World} {B : Nat} (h : Below B w w1) (n : Nat) : Below B w (w1.drewN n) := h.trans ⟨rfl, rfl, rfl, Nat.le_refl _, fun _ _ => rfl⟩
theorem ret_two {a b : Int} {c d : Bool} (h1 : a = b) (h2 : c = d) : Ending.returned (.tuple #[.int .i64 a, .bool c]) = .returned (.tuple #[.int .i64 b, .bool d]) := by rw [h1, h2]
end Go.Proofs.Ytimbidiogcfpeaa.Wd
namespace Go.Proofs.Ytimbidiogcfpeaa.Wd
open Go.RowKit
set_option linter.unusedVariables false
set_option linter.unusedSimpArgs false
theorem RI_lit {l : List Int} (h : (l.all fun y => decide (-9223372036854775808 ≤ y) && decide (y ≤ 9223372036854775807)) = true) : RI l := fun y hy => by
  have := List.all_eq_true.1 h y hy
  simp only [Bool.and_eq_true, decide_eq_true_eq] at this
  exact this
theorem up_alloc (W : World) (o : Obj) : Below W.heap.size W (W.alloc o) := (Below.refl _ _).alloc (Nat.le_refl _) _
theorem bstep {w w1 w2 : World} (h : Below w.heap.size w w1) (h2 : Below w1.heap.size w1 w2) : Below w.heap.size w w2 := h.trans (h2.mono h.size)
theorem blit {w w1 : World} (h : Below w.heap.size w w1) (o : Obj) : Below w.heap.size w (w1.alloc o) := h.trans ((up_alloc w1 o).mono h.size)
theorem j23 : joinE [2, 3] [3] = 0 := by decide +kernel
theorem l23 : joinL [2, 3] [3] = [2, 3] := by decide +kernel
theorem f23 : fromI [3] [2, 3] 4 = 1 := by decide +kernel
theorem b23 : fromB [3] [2, 3] 4 = true := by decide +kernel
theorem z23 : ((sizeN (ntl [2, 3]) : Nat) : Int) = 6 := by decide +kernel
theorem z0 : ((sizeN (ntl []) : Nat) : Int) = 1 := by decide +kernel
theorem g0 : decide (goodN (ntl [])) = true := by decide +kernel
theorem same23 (x y : Int) : decide ([x, y] = [x, y]) = true := decide_eq_true rfl
theorem nums_lit2 {k : IntKind} {e : TypeId} (W : World) (o : Obj) (l : List Int) (n : Nat) (fz : Nat × Nat) (h : l.length = n) : Nums k ((W.alloc o).alloc (.cells (vals k l).toArray e fz)) (.slice (some ⟨W.heap.size + 1, 0, none⟩) n n) l := by
  have := nums_lit (k := k) (e := e) (W.alloc o) l n fz h
  rw [show (W.alloc o).heap.size = W.heap.size + 1 from Array.size_push _] at this
  exact this
end Go.Proofs.Ytimbidiogcfpeaa.Wd
