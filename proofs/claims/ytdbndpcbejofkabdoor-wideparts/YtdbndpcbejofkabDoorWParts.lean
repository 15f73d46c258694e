/- The law WideParts: a product by one of its two is the other one. -/
import Derived.Test.YtdbndpcbejofkabDoorWAwake
import Derived.Test.YtdbndpcbejofkabDoorFacts
import Derived.Test.YtdbndpcbejofkabDoorStill
namespace Go.Proofs.YtdbndpcbejofkabDoor.Wd
open Go.RowKit Fx
set_option linter.unusedVariables false
set_option linter.unusedSimpArgs false
theorem below_up3 {w W W1 : World} (h : Below w.heap.size w W) (hb : Below W.heap.size W W1) : Below w.heap.size w W1 := h.trans (hb.mono h.size)
theorem up2 {W W1 : World} {b : Nat} {x0 x1 : Value} (hb : Below W.heap.size W W1) (h : W.cell? ⟨b, 0, none⟩ = some x0 ∧ W.cell? ⟨b, 1, none⟩ = some x1) : W1.cell? ⟨b, 0, none⟩ = some x0 ∧ W1.cell? ⟨b, 1, none⟩ = some x1 :=
  ⟨keep hb h.1, keep hb h.2⟩
theorem sg_abs (a : Int) : sg (decide (a < 0)) a.natAbs = a := by
  unfold sg
  by_cases h : a < 0
  · simp [h]; omega
  · simp [h]; omega
theorem ov_prod (a n : Int) (ha : InR a) (hn : n ≠ 0) : ovI (a * n) n = a := by
  unfold ovI
  rw [if_neg hn, Int.natAbs_mul, rq_mul _ _ (by omega)]
  have e : sg (Fx.differ (a * n) n) a.natAbs = a := by
    by_cases h0 : a = 0
    · subst h0; unfold sg; split <;> rfl
    · have : Fx.differ (a * n) n = decide (a < 0) := by
        unfold Fx.differ
        rcases Int.lt_or_gt_of_ne h0 with h1 | h1 <;> rcases Int.lt_or_gt_of_ne hn with h2 | h2
        · have := Int.mul_pos_of_neg_of_neg h1 h2
          simp [h1, h2, show ¬ a * n < 0 by omega]
        · have := Int.mul_neg_of_neg_of_pos h1 h2
          simp [h1, this, show ¬ n < 0 by omega]
        · have := Int.mul_neg_of_pos_of_neg h1 h2
          simp [h2, this, show ¬ a < 0 by omega]
        · have := Int.mul_pos h1 h2
          simp [show ¬ a < 0 by omega, show ¬ n < 0 by omega, show ¬ a * n < 0 by omega]
      rw [this, sg_abs]
  rw [e]
  exact hold_in ha.1 ha.2
theorem ov_one (x : Int) : ovI x 1 = hold x := by
  unfold ovI
  rw [if_neg (by omega)]
  have h := rq_mul x.natAbs 1 (by omega)
  rw [Nat.mul_one] at h
  rw [show (1 : Int).natAbs = 1 from rfl, h]
  have : Fx.differ x 1 = decide (x < 0) := by unfold Fx.differ; simp
  rw [this, sg_abs]
theorem prod_in (a b : Int) (ha : InR a) (hb : InR b) : InW (a * b) := by
  have h1 := prod_size a b ha hb
  have h2 := prod_sign a b
  rw [h2]; unfold InW sg; split <;> omega
attribute [local go_sem] onTop_cell onTop_frozen
set_option maxHeartbeats 4000000 in
set_option maxRecDepth 20000 in
theorem parts_any (a n x : Int) (ha : InR a) (hn : InR n) (hx : InW x) (w : World) (hT : Hid (Tz w)) :
    Calls Tryd.prog 3 #[.int .i64 a, .int .i64 n, wd x] w fun e w' => e = .returned (.bool true) ∧ Below w.heap.size w w' := by
  obtain ⟨xh, xl, ex, x1, x2, x3, x4, Hx⟩ := words hx
  obtain ⟨ph, pl, ep, p1, p2, p3, p4, Hp⟩ := words (prod_in a n ha hn)
  obtain ⟨nh, nl, en, n1, n2, n3, n4, Hn⟩ := words (InR.w ha)
  obtain ⟨f, ef⟩ : ∃ f, hold x = f := ⟨_, rfl⟩
  have c1 : ∀ W : World, Calls Tryd.prog 7 #[.int .i64 a, .int .i64 n] W fun e w' => e = .returned (.agg #[.int .i64 ph, .int .u64 pl]) ∧ Below W.heap.size W w' := by
    intro W
    have := prod_any a n ha hn W
    rw [ep] at this
    exact this
  have c2 : n ≠ 0 → ∀ W : World, Calls Tryd.prog 6 #[.agg #[.int .i64 ph, .int .u64 pl], .int .i64 n] W fun e w' => e = .returned (.int .i64 a) ∧ Below W.heap.size W w' := by
    intro h0 W
    have := over_any (a * n) n (prod_in a n ha hn) hn W
    rw [ov_prod a n ha h0, ep] at this
    exact this
  have c3 : ∀ W : World, Calls Tryd.prog 6 #[.agg #[.int .i64 xh, .int .u64 xl], .int .i64 1] W fun e w' => e = .returned (.int .i64 f) ∧ Below W.heap.size W w' := by
    intro W
    have := over_any x 1 hx (by unfold InR; omega) W
    rw [ov_one, ef, ex] at this
    exact this
  have c4 : ∀ W : World, Calls Tryd.prog 8 #[.agg #[.int .i64 xh, .int .u64 xl]] W fun e w' => e = .returned (.int .i64 f) ∧ Below W.heap.size W w' := by
    intro W
    have := fix_any x hx W
    rw [ef, ex] at this
    exact this
  have c5 : ∀ W : World, Calls Tryd.prog 9 #[.int .i64 a] W fun e w' => e = .returned (.agg #[.int .i64 nh, .int .u64 nl]) ∧ Below W.heap.size W w' := by
    intro W
    have := of_any a ha W
    rw [en] at this
    exact this
  have c6 : ∀ W : World, Calls Tryd.prog 8 #[.agg #[.int .i64 nh, .int .u64 nl]] W fun e w' => e = .returned (.int .i64 a) ∧ Below W.heap.size W w' := by
    intro W
    have := fix_any a (InR.w ha) W
    rw [hold_in ha.1 ha.2, en] at this
    exact this
  have s0 : ∀ W : World, Below w.heap.size w W → Calls Tryd.prog 5 #[] W fun e w' => e = .returned (.bool true) ∧ Below W.heap.size W w' := fun W h => awake_any W (hT.out.up h)
  rw [ex]
  clear ex ep en ef Hx Hp Hn hT hx
  unfold InR at ha hn
  haveI : Nonempty World := ⟨w⟩
  by_cases h0 : n = 0
  · have h0' : (n == 0) = true := by simpa using h0
    clear h0
    go_enter Tryd.func3, Tryd.ntmps3
    go_wp2_with fail
    refine (s0 _ (by go_grown)).mono ?_
    rintro e' w1 ⟨rfl, hb1⟩
    have hB1 : Below w.heap.size w w1 := Below.trans (by go_grown) (hb1.mono (by first | omega | (simp; try omega)))
    have hS1 := up2 (b := w.heap.size) (x0 := .int .i64 xh) (x1 := .int .u64 xl) hb1 (by simp [go_sem])
    have lt1 : w.heap.size < w1.heap.size := by have := hb1.size; simp at this; omega
    clear hb1 s0
    go_wp2_with fail
    refine wp_region_still (by kernel_rfl) (by kernel_rfl) ?_
    repeat (go_big_quiet_step (first | (go_at_call 6; (with_reducible exact Calls.still_of (c3 _))) | (go_at_call 8; first | (with_reducible exact Calls.still_of (c4 _)) | (with_reducible exact Calls.still_of (c6 _))) | (go_at_call 9; (with_reducible exact Calls.still_of (c5 _)))))
    refine wpQuiet_nil ?_
    intro _ hw'
    obtain ⟨dq, hw''⟩ := hw'
    subst hw''
    have hBd := below_up3 hB1 (onTop_below w1 dq)
    go_wp2
    go_ret
    exact ⟨rfl, hBd⟩
  · have h0' : (n == 0) = false := by simpa using h0
    go_enter Tryd.func3, Tryd.ntmps3
    go_wp2_with fail
    refine (s0 _ (by go_grown)).mono ?_
    rintro e' w1 ⟨rfl, hb1⟩
    have hB1 : Below w.heap.size w w1 := Below.trans (by go_grown) (hb1.mono (by first | omega | (simp; try omega)))
    have hS1 := up2 (b := w.heap.size) (x0 := .int .i64 xh) (x1 := .int .u64 xl) hb1 (by simp [go_sem])
    have lt1 : w.heap.size < w1.heap.size := by have := hb1.size; simp at this; omega
    clear hb1 s0
    go_wp2_with fail
    refine wp_region_still (by kernel_rfl) (by kernel_rfl) ?_
    repeat (go_big_quiet_step (first | (go_at_call 6; first | (with_reducible exact Calls.still_of (c2 h0 _)) | (with_reducible exact Calls.still_of (c3 _))) | (go_at_call 8; first | (with_reducible exact Calls.still_of (c4 _)) | (with_reducible exact Calls.still_of (c6 _))) | (go_at_call 9; (with_reducible exact Calls.still_of (c5 _))) | (go_at_call 7; (with_reducible exact Calls.still_of (c1 _)))))
    refine wpQuiet_nil ?_
    intro _ hw'
    obtain ⟨dq, hw''⟩ := hw'
    subst hw''
    have hBd := below_up3 hB1 (onTop_below w1 dq)
    go_wp2
    go_ret
    exact ⟨rfl, hBd⟩
end Go.Proofs.YtdbndpcbejofkabDoor.Wd
