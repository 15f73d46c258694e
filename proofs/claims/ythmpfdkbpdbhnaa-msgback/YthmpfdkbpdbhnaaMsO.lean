/- The laws' own helpers of stage 19: a message of the other side, is one heavy. -/
import Derived.Test.YthmpfdkbpdbhnaaMsG
namespace Go.Proofs.Ythmpfdkbpdbhnaa.Wd
open Go.RowKit
set_option linter.unusedVariables false
set_option linter.unusedSimpArgs false
set_option maxRecDepth 8000
set_option maxHeartbeats 4000000
theorem mheavy_any (k f t v s : Int) (pn pv : Option Addr) (n cn m cv : Nat) (w : World) :
    Calls Try.prog 13 #[MsV k f t v s (.slice pn n cn) (.slice pv m cv)] w fun e w' => e = .returned (.bool (decide (520 < n ∨ 520 < m))) ∧ Below w.heap.size w w' := by
  obtain ⟨r, er⟩ : ∃ r, decide (520 < n ∨ 520 < m) = r := ⟨_, rfl⟩
  have HR : Hid (decide (520 < n ∨ 520 < m) = r) := er
  rw [er]
  clear er
  by_cases h : 520 < n
  · have er : r = true := by rw [← HR.out, decide_eq_true (.inl h)]
    subst er
    have h' : (520 : Int) < (n : Int) := by omega
    go_enter Try.func13, Try.ntmps13
    go_wp2
    go_ret
    exact ⟨rfl, by go_grown⟩
  · have h' : (n : Int) ≤ 520 := by omega
    have er : r = decide ((520 : Int) < (m : Int)) := by rw [← HR.out]; exact decide_eq_decide.2 (by omega)
    subst er
    go_enter Try.func13, Try.ntmps13
    go_wp2
    go_ret
    exact ⟨by simp [show ¬ ((520 : Int) < (n : Int)) by omega], by go_grown⟩
theorem mown_any (k f t v s : Int) (pn pv : Option Addr) (n cn m cv : Nat) (w : World) :
    Calls Try.prog 16 #[MsV k f t v s (.slice pn n cn) (.slice pv m cv)] w fun e w' => e = .returned (MsV k f t v s (.slice pn n cn) (.slice pv m cv)) ∧ Below w.heap.size w w' := by
  go_enter Try.func16, Try.ntmps16
  go_wp2_with fail
  exact bodyPost_ret (v := MsV k f t v s (.slice pn n cn) (.slice pv m cv)) (by simp [results, Try.results16, go_sem]) rfl ⟨rfl, by go_grown⟩
end Go.Proofs.Ythmpfdkbpdbhnaa.Wd
