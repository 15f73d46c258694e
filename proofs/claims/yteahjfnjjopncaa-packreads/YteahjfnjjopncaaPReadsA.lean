/- The law PackReads: what a round of its loop is told. -/
import Derived.Test.YteahjfnjjopncaaPkE
namespace Go.Proofs.Yteahjfnjjopncaa.Wd
open Go.RowKit
set_option linter.unusedVariables false
set_option linter.unusedSimpArgs false
/-- What is left to read. -/
def rst (l : List Int) (at_ : Nat) (bad : Bool) : List Int := if bad then [] else l.drop at_
theorem step_ok (l : List Int) (at_ s : Nat) (h : at_ + s ≤ l.length) : got (rst l at_ false) s = (l.drop at_).take s ∧ left (rst l at_ false) s = rst l (at_ + s) false ∧ mars (rst l at_ false) false s = false := by
  have ok : okT (rst l at_ false) s = true := by simp [okT, rst]; omega
  refine ⟨?_, ?_, ?_⟩
  · unfold got
    rw [if_pos ok, Int.toNat_natCast]
    simp [rst]
  · unfold left
    rw [if_pos ok, Int.toNat_natCast]
    simp [rst]
  · unfold mars
    rw [if_pos ok]
theorem step_bad (l : List Int) (at_ : Nat) (hat : at_ ≤ l.length) (s : Int) (bad : Bool) (h : bad = false → s < 0 ∨ (l.length : Int) < at_ + s) : got (rst l at_ bad) s = [] ∧ left (rst l at_ bad) s = rst l at_ true ∧ mars (rst l at_ bad) bad s = true := by
  cases bad
  · have ok : ¬ okT (rst l at_ false) s = true := by
      have := h rfl
      simp [okT, rst]
      omega
    refine ⟨?_, ?_, ?_⟩
    · unfold got
      rw [if_neg ok]
    · unfold left
      rw [if_neg ok]
      simp [rst]
    · unfold mars
      rw [if_neg ok]
  · refine ⟨?_, ?_, ?_⟩
    · unfold got rst
      simp
    · unfold left rst
      simp
    · unfold mars
      simp
theorem rst_len (l : List Int) (at_ : Nat) : (rst l at_ false).length = l.length - at_ := by simp [rst]
theorem rst_le (l : List Int) (at_ : Nat) (bad : Bool) : (rst l at_ bad).length ≤ l.length := by cases bad <;> simp [rst]
theorem num_nil : num [] = 0 := rfl
theorem eight (e : Int) : e % 8 = 0 ∨ e % 8 = 1 ∨ e % 8 = 2 ∨ e % 8 = 3 ∨ e % 8 = 4 ∨ e % 8 = 5 ∨ e % 8 = 6 ∨ e % 8 = 7 := by omega
theorem wf_i64 {x : Int} (h : (Lit.int .i64 x).wf = true) : -9223372036854775808 ≤ x ∧ x ≤ 9223372036854775807 := bounds_i64 h
/-- The rounds' code of the loops in a code. -/
def loopsIn : Code → List Code
  | .loop c => [c]
  | .scope c => loopsIn c
  | .block _ c => loopsIn c
  | .cond _ a b => loopsIn a ++ loopsIn b
  | .seq a b => loopsIn a ++ loopsIn b
  | _ => []
end Go.Proofs.Yteahjfnjjopncaa.Wd
