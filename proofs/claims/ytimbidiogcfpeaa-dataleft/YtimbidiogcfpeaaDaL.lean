/- The math of a list of members with one fewer. -/
import Derived.Test.YtimbidiogcfpeaaDaM
namespace Go.Proofs.Ytimbidiogcfpeaa.Wd
set_option linter.unusedVariables false
set_option linter.unusedSimpArgs false
def lessM (m : List Int) (g : Nat) : List Int := m.take g ++ m.drop (g + 1)
theorem less_len {m : List Int} {g : Nat} (hg : g < m.length) : (lessM m g).length = m.length - 1 := by
  unfold lessM
  rw [List.length_append, List.length_take, List.length_drop]
  omega
theorem less_at {m : List Int} {g : Nat} (hg : g < m.length) (i : Nat) : (lessM m g).getD i 0 = m.getD (if i < g then i else i + 1) 0 := by
  unfold lessM
  rw [List.getD_eq_getElem?_getD, List.getD_eq_getElem?_getD]
  by_cases h : i < g
  · rw [if_pos h, List.getElem?_append_left (by rw [List.length_take]; omega), List.getElem?_take, if_pos h]
  · rw [if_neg h, List.getElem?_append_right (by rw [List.length_take]; omega), List.length_take, List.getElem?_drop]
    congr 2
    omega
theorem less_good {m : List Int} {g : Nat} (h : goodM m) (h2 : 2 ≤ m.length) (hg : g < m.length) : goodM (lessM m g) := by
  have hl := less_len hg
  refine ⟨by have := h.1; omega, fun i hi => ⟨?_, fun h0 => ?_⟩⟩
  · rw [less_at hg]
    exact (h.2 _ (by split <;> omega)).1
  · rw [less_at hg, less_at hg]
    exact goodM_lt h _ _ (by split <;> split <;> omega) (by split <;> omega)
theorem less_gone {m : List Int} {g : Nat} (h : goodM m) (hg : g < m.length) : shE (lessM m g) (m.getD g 0) = 1 := by
  refine (shE_bad fun h0 => ?_).1
  obtain ⟨p, h1, h3, h4⟩ := plI_at (shE_ok.1 h0).2
  rw [less_len hg] at h3
  rw [less_at hg] at h4
  have := goodM_inj h (i := if p < g then p else p + 1) (j := g) (by split <;> omega) hg h4
  split at this <;> omega
end Go.Proofs.Ytimbidiogcfpeaa.Wd
