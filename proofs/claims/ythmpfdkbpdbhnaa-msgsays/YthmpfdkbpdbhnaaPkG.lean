/- What a Reader's End hands back; what every law of stage 3 asks first. -/
import Derived.Test.YthmpfdkbpdbhnaaPkB
namespace Go.Proofs.Ythmpfdkbpdbhnaa.Wd
open Go.RowKit
set_option linter.unusedVariables false
set_option linter.unusedSimpArgs false
set_option maxHeartbeats 1000000 in
theorem end_any (g : Nat) (l : List Int) (hl : l.length ≤ 9223372036854775807) (sp : Bool) (w : World) (h : Rd w g l sp) :
    Calls Try.prog 23 #[.pointer (some ⟨g, 0, none⟩)] w fun e w' => e = .returned (.bool (!sp && decide (l.length = 0))) ∧ w' = w := by
  obtain ⟨v, h1, h2⟩ := h.rest
  have hm := h.mark
  obtain ⟨p, c, rfl⟩ : ∃ p c, v = .slice p l.length c := by
    rcases h2 with ⟨rfl, rfl⟩ | ⟨q, o, c, rfl, _⟩
    · exact ⟨_, _, rfl⟩
    · exact ⟨_, _, rfl⟩
  obtain ⟨m, em⟩ : ∃ m, l.length = m := ⟨_, rfl⟩
  rw [em] at h1 hl ⊢
  clear h2 h em
  cases sp
  · by_cases hz : m = 0
    · subst hz
      go_enter Try.func23, Try.ntmps23
      go_wp2
      go_ret
      exact ⟨rfl, rfl⟩
    · have hz' : ((m : Int) == 0) = false := by simp; omega
      have hd : decide (m = 0) = false := by simp; omega
      rw [hd]
      go_enter Try.func23, Try.ntmps23
      go_wp2
      go_ret
      exact ⟨rfl, rfl⟩
  · go_enter Try.func23, Try.ntmps23
    go_wp2
    go_ret
    exact ⟨rfl, rfl⟩
/-- The two bytes that the first examples read. -/
theorem two8 (W : World) (x y : Int) : Bytes (W.alloc (.cells #[.int .u8 x, .int .u8 y] 5)) (.slice (some ⟨W.heap.size, 0, none⟩) 2 2) [x, y] := .inr ⟨_, _, rfl, two_at W x y⟩
end Go.Proofs.Ythmpfdkbpdbhnaa.Wd
