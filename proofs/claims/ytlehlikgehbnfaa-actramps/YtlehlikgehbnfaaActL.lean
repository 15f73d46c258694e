/- The laws' own helper great; what act's functions hand back is not too long to be compared. -/
import Derived.Test.YtlehlikgehbnfaaActW
import Derived.Test.YtlehlikgehbnfaaActC
import Derived.Test.YtlehlikgehbnfaaTenM
import Derived.Test.YtlehlikgehbnfaaTold
namespace Go.Proofs.Ytlehlikgehbnfaa.Wd
open Go.RowKit Fx
set_option linter.unusedVariables false
set_option linter.unusedSimpArgs false
set_option maxHeartbeats 1000000 in
theorem great9_any (p p2 : Option Addr) (n c n2 c2 : Nat) (most : Nat) (hm : most ≤ 1000) (w : World) :
    Calls Try.prog 17 #[.agg #[.slice p n c, .slice p2 n2 c2], .int .i64 (most : Int)] w fun e w' => e = .returned (.bool (decide (10 < n ∨ most < n2))) ∧ Below w.heap.size w w' := by
  have hm' : (most : Int) ≤ 1000 := by omega
  by_cases h1 : 10 < n
  · rw [decide_eq_true (.inl h1)]
    have h1' : (10 : Int) < (n : Int) := by omega
    go_enter Try.func17, Try.ntmps17
    go_wp2
    go_ret
    exact ⟨rfl, by go_grown⟩
  · have h1' : (n : Int) ≤ 10 := by omega
    by_cases h2 : most < n2
    · rw [decide_eq_true (.inr h2)]
      have h2' : (most : Int) < (n2 : Int) := by omega
      go_enter Try.func17, Try.ntmps17
      go_wp2
      go_ret
      exact ⟨by simp [h2], by go_grown⟩
    · rw [decide_eq_false (fun h => h.elim h1 h2)]
      have h2' : (n2 : Int) ≤ (most : Int) := by omega
      go_enter Try.func17, Try.ntmps17
      go_wp2
      go_ret
      exact ⟨by simp [h2]; exact h1', by go_grown⟩
theorem bent_few (k : Int) (d x : List Int) : Few (bentD k d x) ∧ Few (bentV k d x) := by
  unfold Few bentD bentV
  constructor
  · split
    · rename_i h
      have := h.2.1.1
      rw [ntl_len] at this
      omega
    · simp
  · split
    · rename_i h
      have := h.2.1.2.2
      have := h.2.2
      rw [List.length_map]
      omega
    · simp
theorem unb_few (k : Int) (d x d' y : List Int) : Few (unbD k d x d' y) ∧ Few (unbV k d x d' y) := by
  unfold Few unbD unbV
  constructor
  · split
    · rename_i h
      have := h.1.2.2.1.1
      rw [ntl_len] at this
      omega
    · simp
  · split
    · rename_i h
      have := h.1.2.1.1.2.2
      have := h.1.2.1.2
      rw [List.length_map, List.length_range]
      omega
    · simp
end Go.Proofs.Ytlehlikgehbnfaa.Wd
