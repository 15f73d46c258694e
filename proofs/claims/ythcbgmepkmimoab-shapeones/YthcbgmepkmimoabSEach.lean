/- The law ShapeEach. -/
import Derived.Test.YthcbgmepkmimoabSOrder
namespace Go.Proofs.Ythcbgmepkmimoab.Wd
open Go.RowKit
set_option linter.unusedVariables false
set_option linter.unusedSimpArgs false
theorem OwnK.up {k : IntKind} {e : TypeId} {W W' : World} {B : Nat} {v : Value} {l : List Int} (h : OwnK k e W B v l) (hb : Below W.heap.size W W') : OwnK k e W' B v l := by
  refine ⟨h.1, ?_⟩
  rcases h.2 with h | ⟨g, cap, cur, h1, h2, h3, h4⟩
  · exact .inl h
  · refine .inr ⟨g, cap, cur, h1, h2, ?_, h4⟩
    have hg : g < W.heap.size := by
      rcases Nat.lt_or_ge g W.heap.size with h | h
      · exact h
      · rw [Array.getElem?_eq_none h] at h3; cases h3
    rw [hb.block g hg]
    exact h3
/-- How often each was met, behind the first k. -/
def cntL (S : Nat) (f : Nat → Nat) (k : Nat) : List Int := (List.range S).map fun n => ((cnt f k n : Nat) : Int)
theorem cntL_len (S : Nat) (f : Nat → Nat) (k : Nat) : (cntL S f k).length = S := by simp [cntL]
theorem cntL_zero (S : Nat) (f : Nat → Nat) : cntL S f 0 = List.replicate S 0 := by
  refine List.ext_getElem (by simp [cntL]) fun i h1 h2 => ?_
  simp [cntL, cnt]
theorem cntL_get (S : Nat) (f : Nat → Nat) (k j : Nat) (h : j < S) : (cntL S f k).getD j 0 = ((cnt f k j : Nat) : Int) := by
  rw [getD_lt _ _ _ (by rw [cntL_len]; exact h)]
  simp [cntL]
theorem cntL_set (S : Nat) (f : Nat → Nat) (k : Nat) (h : f k < S) : (cntL S f k).set (f k) (((cnt f k (f k) : Nat) : Int) + 1) = cntL S f (k + 1) := by
  refine List.ext_getElem (by simp [cntL]) fun i h1 h2 => ?_
  rw [List.getElem_set]
  simp only [cntL, List.getElem_map, List.getElem_range, cnt]
  by_cases hi : f k = i
  · subst hi
    simp
  · rw [if_neg hi, if_neg hi]
    rfl
theorem cnt_le (f : Nat → Nat) (n : Nat) : ∀ k, cnt f k n ≤ k
  | 0 => Nat.le_refl _
  | k + 1 => by
    have := cnt_le f n k
    rw [cnt]
    split <;> omega
/-- Whatever number of big: it is spread from there. -/
theorem from_in {x y : List Nat} (hx : goodN x) (hy : goodN y) (hf : fitsN x y) (hj : joinN x y = y) (k : Nat) (hk : k < prodN y) : fromB (itl x) (itl y) (k : Int) = true ∧ fromI (itl x) (itl y) (k : Int) = ((fromN x y k : Nat) : Int) := by
  have h0 := join_fine hx hy hf (by rw [hj]; exact hy)
  have h1 : fromB (itl x) (itl y) (k : Int) = true := by
    unfold fromB
    refine decide_eq_true ⟨h0.2, by rw [h0.1, hj], by omega, ?_⟩
    rw [ntl_itl, sizeN_good hy]
    omega
  refine ⟨h1, ?_⟩
  unfold fromI
  rw [if_pos h1, ntl_itl, ntl_itl, Int.toNat_natCast]
end Go.Proofs.Ythcbgmepkmimoab.Wd
