/- What the reference's functions on signed numbers of four words hand back. -/
import Derived.Test.YtbndiadgnglkhaaRefA
namespace Go.Proofs.Ytbndiadgnglkhaa.Rf
open Go.RowKit Fx
set_option linter.unusedVariables false
set_option linter.unusedSimpArgs false
attribute [local go_sem] setCell_drewN alloc_drewN
theorem ret_bool {a b : Bool} (h : a = b) : Ending.returned (.bool a) = .returned (.bool b) := by rw [h]
def EQ (k : Nat) (a0 a1 a2 a3 b0 b1 b2 b3 : Int) : Prop :=
  if k = 4 then True else if k = 3 then a3 = b3 else if k = 2 then a3 = b3 ∧ a2 = b2 else if k = 1 then (a3 = b3 ∧ a2 = b2) ∧ a1 = b1 else ((a3 = b3 ∧ a2 = b2) ∧ a1 = b1) ∧ a0 = b0
theorem eq_step0 {a0 a1 a2 a3 b0 b1 b2 b3 : Int} (h : Hid (EQ 1 a0 a1 a2 a3 b0 b1 b2 b3)) (e : a0 = b0) : Hid (EQ 0 a0 a1 a2 a3 b0 b1 b2 b3) := by
  have h' := h.out
  simp [EQ] at h'
  show EQ 0 a0 a1 a2 a3 b0 b1 b2 b3
  simp [EQ]
  simp [h', e]
theorem eq_step1 {a0 a1 a2 a3 b0 b1 b2 b3 : Int} (h : Hid (EQ 2 a0 a1 a2 a3 b0 b1 b2 b3)) (e : a1 = b1) : Hid (EQ 1 a0 a1 a2 a3 b0 b1 b2 b3) := by
  have h' := h.out
  simp [EQ] at h'
  show EQ 1 a0 a1 a2 a3 b0 b1 b2 b3
  simp [EQ]
  simp [h', e]
theorem eq_step2 {a0 a1 a2 a3 b0 b1 b2 b3 : Int} (h : Hid (EQ 3 a0 a1 a2 a3 b0 b1 b2 b3)) (e : a2 = b2) : Hid (EQ 2 a0 a1 a2 a3 b0 b1 b2 b3) := by
  have h' := h.out
  simp [EQ] at h'
  show EQ 2 a0 a1 a2 a3 b0 b1 b2 b3
  simp [EQ]
  simp [h', e]
theorem eq_step3 {a0 a1 a2 a3 b0 b1 b2 b3 : Int} (h : Hid (EQ 4 a0 a1 a2 a3 b0 b1 b2 b3)) (e : a3 = b3) : Hid (EQ 3 a0 a1 a2 a3 b0 b1 b2 b3) := by
  have h' := h.out
  simp [EQ] at h'
  show EQ 3 a0 a1 a2 a3 b0 b1 b2 b3
  simp [EQ]
  simp [h', e]
theorem less_end0 {a0 a1 a2 a3 b0 b1 b2 b3 : Int} (h : Hid (EQ 1 a0 a1 a2 a3 b0 b1 b2 b3)) (p0 : 0 ≤ a0 ∧ a0 < 18446744073709551616) (p1 : 0 ≤ a1 ∧ a1 < 18446744073709551616) (p2 : 0 ≤ a2 ∧ a2 < 18446744073709551616) (p3 : 0 ≤ a3 ∧ a3 < 18446744073709551616)
    (q0 : 0 ≤ b0 ∧ b0 < 18446744073709551616) (q1 : 0 ≤ b1 ∧ b1 < 18446744073709551616) (q2 : 0 ≤ b2 ∧ b2 < 18446744073709551616) (q3 : 0 ≤ b3 ∧ b3 < 18446744073709551616) (hn : ¬ a0 = b0) : decide (a0 < b0) = decide (PS 4 a0 a1 a2 a3 < PS 4 b0 b1 b2 b3) := by
  have h' := h.out
  simp [EQ] at h'
  rw [decide_eq_decide]
  simp [PS]
  omega
theorem less_end1 {a0 a1 a2 a3 b0 b1 b2 b3 : Int} (h : Hid (EQ 2 a0 a1 a2 a3 b0 b1 b2 b3)) (p0 : 0 ≤ a0 ∧ a0 < 18446744073709551616) (p1 : 0 ≤ a1 ∧ a1 < 18446744073709551616) (p2 : 0 ≤ a2 ∧ a2 < 18446744073709551616) (p3 : 0 ≤ a3 ∧ a3 < 18446744073709551616)
    (q0 : 0 ≤ b0 ∧ b0 < 18446744073709551616) (q1 : 0 ≤ b1 ∧ b1 < 18446744073709551616) (q2 : 0 ≤ b2 ∧ b2 < 18446744073709551616) (q3 : 0 ≤ b3 ∧ b3 < 18446744073709551616) (hn : ¬ a1 = b1) : decide (a1 < b1) = decide (PS 4 a0 a1 a2 a3 < PS 4 b0 b1 b2 b3) := by
  have h' := h.out
  simp [EQ] at h'
  rw [decide_eq_decide]
  simp [PS]
  omega
theorem less_end2 {a0 a1 a2 a3 b0 b1 b2 b3 : Int} (h : Hid (EQ 3 a0 a1 a2 a3 b0 b1 b2 b3)) (p0 : 0 ≤ a0 ∧ a0 < 18446744073709551616) (p1 : 0 ≤ a1 ∧ a1 < 18446744073709551616) (p2 : 0 ≤ a2 ∧ a2 < 18446744073709551616) (p3 : 0 ≤ a3 ∧ a3 < 18446744073709551616)
    (q0 : 0 ≤ b0 ∧ b0 < 18446744073709551616) (q1 : 0 ≤ b1 ∧ b1 < 18446744073709551616) (q2 : 0 ≤ b2 ∧ b2 < 18446744073709551616) (q3 : 0 ≤ b3 ∧ b3 < 18446744073709551616) (hn : ¬ a2 = b2) : decide (a2 < b2) = decide (PS 4 a0 a1 a2 a3 < PS 4 b0 b1 b2 b3) := by
  have h' := h.out
  simp [EQ] at h'
  rw [decide_eq_decide]
  simp [PS]
  omega
theorem less_end3 {a0 a1 a2 a3 b0 b1 b2 b3 : Int} (h : Hid (EQ 4 a0 a1 a2 a3 b0 b1 b2 b3)) (p0 : 0 ≤ a0 ∧ a0 < 18446744073709551616) (p1 : 0 ≤ a1 ∧ a1 < 18446744073709551616) (p2 : 0 ≤ a2 ∧ a2 < 18446744073709551616) (p3 : 0 ≤ a3 ∧ a3 < 18446744073709551616)
    (q0 : 0 ≤ b0 ∧ b0 < 18446744073709551616) (q1 : 0 ≤ b1 ∧ b1 < 18446744073709551616) (q2 : 0 ≤ b2 ∧ b2 < 18446744073709551616) (q3 : 0 ≤ b3 ∧ b3 < 18446744073709551616) (hn : ¬ a3 = b3) : decide (a3 < b3) = decide (PS 4 a0 a1 a2 a3 < PS 4 b0 b1 b2 b3) := by
  have h' := h.out
  simp [EQ] at h'
  rw [decide_eq_decide]
  simp [PS]
  omega
set_option maxHeartbeats 2000000 in
theorem less_low (a0 a1 a2 a3 b0 b1 b2 b3 : Int) (p0 : U a0) (p1 : U a1) (p2 : U a2) (p3 : U a3) (q0 : U b0) (q1 : U b1) (q2 : U b2) (q3 : U b3) (w : World) :
    Calls Try.prog 74 #[.agg #[.int .u64 a0, .int .u64 a1, .int .u64 a2, .int .u64 a3], .agg #[.int .u64 b0, .int .u64 b1, .int .u64 b2, .int .u64 b3]] w fun e w' =>
      e = .returned (.bool (decide (PS 4 a0 a1 a2 a3 < PS 4 b0 b1 b2 b3))) ∧ Below w.heap.size w w' := by
  unfold U at p0 p1 p2 p3 q0 q1 q2 q3
  generalize hL : decide (PS 4 a0 a1 a2 a3 < PS 4 b0 b1 b2 b3) = lt
  have HL : Hid (decide (PS 4 a0 a1 a2 a3 < PS 4 b0 b1 b2 b3) = lt) := hL
  clear hL
  go_enter Try.func74, Try.ntmps74
  go_wp2
  go_loopw [5] (fun v wr => ∃ (k n : Nat), k ≤ 4 ∧ v = .int .i64 ((k : Int) - 1) ∧ Hid (EQ k a0 a1 a2 a3 b0 b1 b2 b3) ∧
      wr = ((w.alloc (.cells #[.int .u64 a0, .int .u64 a1, .int .u64 a2, .int .u64 a3] 75)).alloc (.cells #[.int .u64 b0, .int .u64 b1, .int .u64 b2, .int .u64 b3] 75)).drewN n) (fun v _ => (intOf v + 1).toNat)
  case atStart => exact ⟨4, 0, by omega, rfl, by show EQ 4 a0 a1 a2 a3 b0 b1 b2 b3; simp [EQ], rfl⟩
  case round =>
    obtain ⟨k, n, hk, rfl, hinv, rfl⟩ := hrel
    match k, hk with
    | 4, _ =>
      by_cases hne : a3 = b3
      · have hne' : (a3 != b3) = false := by simpa using hne
        have HN : Hid (a3 = b3) := hne
        clear hne
        go_wp2_with fail
        go_quiet (fail)
        go_wp2
        go_roundw
        case rel => exact ⟨3, _, by omega, rfl, eq_step3 hinv HN.out, rfl⟩
        case measure => simp [intOf]
      · have hne' : (a3 != b3) = true := by simpa using hne
        clear hne
        go_wp2_with fail
        go_quiet (fail)
        go_wp2_with fail
        go_quiet (fail)
        go_wp2
        go_ret
        exact ⟨ret_bool ((less_end3 hinv p0 p1 p2 p3 q0 q1 q2 q3 (by simpa using hne')).trans HL.out), (by (repeat (with_reducible refine below_drewN ?_ _)); go_grown)⟩
    | 3, _ =>
      by_cases hne : a2 = b2
      · have hne' : (a2 != b2) = false := by simpa using hne
        have HN : Hid (a2 = b2) := hne
        clear hne
        go_wp2_with fail
        go_quiet (fail)
        go_wp2
        go_roundw
        case rel => exact ⟨2, _, by omega, rfl, eq_step2 hinv HN.out, rfl⟩
        case measure => simp [intOf]
      · have hne' : (a2 != b2) = true := by simpa using hne
        clear hne
        go_wp2_with fail
        go_quiet (fail)
        go_wp2_with fail
        go_quiet (fail)
        go_wp2
        go_ret
        exact ⟨ret_bool ((less_end2 hinv p0 p1 p2 p3 q0 q1 q2 q3 (by simpa using hne')).trans HL.out), (by (repeat (with_reducible refine below_drewN ?_ _)); go_grown)⟩
    | 2, _ =>
      by_cases hne : a1 = b1
      · have hne' : (a1 != b1) = false := by simpa using hne
        have HN : Hid (a1 = b1) := hne
        clear hne
        go_wp2_with fail
        go_quiet (fail)
        go_wp2
        go_roundw
        case rel => exact ⟨1, _, by omega, rfl, eq_step1 hinv HN.out, rfl⟩
        case measure => simp [intOf]
      · have hne' : (a1 != b1) = true := by simpa using hne
        clear hne
        go_wp2_with fail
        go_quiet (fail)
        go_wp2_with fail
        go_quiet (fail)
        go_wp2
        go_ret
        exact ⟨ret_bool ((less_end1 hinv p0 p1 p2 p3 q0 q1 q2 q3 (by simpa using hne')).trans HL.out), (by (repeat (with_reducible refine below_drewN ?_ _)); go_grown)⟩
    | 1, _ =>
      by_cases hne : a0 = b0
      · have hne' : (a0 != b0) = false := by simpa using hne
        have HN : Hid (a0 = b0) := hne
        clear hne
        go_wp2_with fail
        go_quiet (fail)
        go_wp2
        go_roundw
        case rel => exact ⟨0, _, by omega, rfl, eq_step0 hinv HN.out, rfl⟩
        case measure => simp [intOf]
      · have hne' : (a0 != b0) = true := by simpa using hne
        clear hne
        go_wp2_with fail
        go_quiet (fail)
        go_wp2_with fail
        go_quiet (fail)
        go_wp2
        go_ret
        exact ⟨ret_bool ((less_end0 hinv p0 p1 p2 p3 q0 q1 q2 q3 (by simpa using hne')).trans HL.out), (by (repeat (with_reducible refine below_drewN ?_ _)); go_grown)⟩
    | 0, _ =>
      go_wp2
      go_ret
      refine ⟨ret_bool ?_, (by (repeat (with_reducible refine below_drewN ?_ _)); go_grown)⟩
      have h' := hinv.out
      simp [EQ] at h'
      rw [← HL.out]
      obtain ⟨⟨⟨h3, h2⟩, h1⟩, h0⟩ := h'
      rw [h3, h2, h1, h0]
      simp
end Go.Proofs.Ytbndiadgnglkhaa.Rf
