/- The law ShapeBack. -/
import Derived.Test.YthcbgmepkmimoabSOrder
namespace Go.Proofs.Ythcbgmepkmimoab.Wd
open Go.RowKit
set_option linter.unusedVariables false
set_option linter.unusedSimpArgs false
theorem placeN_mem : ∀ (d : List Nat) (a : Nat) (y : Nat), y ∈ placeN d a → y ≤ a
  | [], _, y, h => by simp [placeN] at h
  | x :: ds, a, y, h => by
    rw [placeN, List.mem_cons] at h
    rcases h with rfl | h
    · exact Nat.div_le_self _ _
    · exact Nat.le_trans (placeN_mem ds _ y h) (Nat.mod_le _ _)
theorem at_place {x : List Nat} (hx : goodN x) (a : Nat) (ha : a < prodN x) : atB (itl x) (itl (placeN x a)) = true ∧ atI (itl x) (itl (placeN x a)) = (a : Int) := by
  have h1 : atB (itl x) (itl (placeN x a)) = true := by
    unfold atB
    rw [ntl_itl, decide_eq_true hx, inside_inB (inside_place x a hx.2.1 ha)]
    rfl
  refine ⟨h1, ?_⟩
  unfold atI
  rw [if_pos h1, ntl_itl, ntl_itl, eval_place x a hx.2.1 ha]
def dK (p s : List Nat) (k : Nat) : Int := ((dotK p s k : Nat) : Int)
theorem dK_succ (p s : List Nat) (k : Nat) : dK p s (k + 1) = dK p s k + (itl p).getD k 0 * (itl s).getD k 0 := by
  unfold dK
  rw [dotK, itl_getD, itl_getD, Int.natCast_add, Int.natCast_mul]
theorem placeI_in {x : List Nat} {a : Nat} (hx : goodN x) (ha : a < prodN x) : placeI (itl x) (a : Int) = itl (placeN x a) := by
  unfold placeI
  rw [ntl_itl, sizeN_good hx, if_pos ⟨by omega, by omega⟩, Int.toNat_natCast]
theorem stridesI_in {x : List Nat} (hx : goodN x) : stridesI (itl x) = itl (stridesN x) := by
  unfold stridesI
  rw [ntl_itl, if_pos hx]
end Go.Proofs.Ythcbgmepkmimoab.Wd
