/- The law's own preamble: it hands back true, in every world that holds the table of the lowest bits' places. -/
import Derived.Test.YtdbndpcbejofkaaDoorWideF
namespace Go.Proofs.YtdbndpcbejofkaaDoor.Wd
open Go.RowKit Fx
set_option linter.unusedVariables false
set_option linter.unusedSimpArgs false
theorem shift_any (a nn : Int) (ha : InW a) (hr : InR nn) (w : World) (hT : Hid (Tz w)) :
    Calls Tryd.prog 15 #[wd a, .int .i64 nn] w fun e w' => e = .returned (wd (if nn < 1 ∨ 126 < nn then a else rqI a (2 ^ nn.toNat))) ∧ Below w.heap.size w w' := by
  by_cases h : nn < 1 ∨ 126 < nn
  · rw [if_pos h]
    exact shift_same a nn ha h hr w
  · rw [if_neg h]
    have := shift_mid a nn (nn.toNat - 1) ha (by omega) (by omega) w hT
    rw [show nn.toNat - 1 + 1 = nn.toNat by omega] at this
    exact this
theorem wd_two : wd 2 = .agg #[.int .i64 0, .int .u64 2] := (wd_eq (by decide) (by decide)).symm
theorem wd_three : wd 3 = .agg #[.int .i64 0, .int .u64 3] := (wd_eq (by decide) (by decide)).symm
theorem wd_minus : wd (-1) = .agg #[.int .i64 (-1), .int .u64 18446744073709551615] := (wd_eq (by decide) (by decide)).symm
theorem wd_far : wd (4611686018427387904 * 4) = .agg #[.int .i64 1, .int .u64 0] := (wd_eq (by decide) (by decide)).symm
set_option maxHeartbeats 1000000 in
set_option maxRecDepth 20000 in
theorem awake_any (w : World) (hT : Hid (Tz w)) :
    Calls Tryd.prog 9 #[] w fun e w' => e = .returned (.bool true) ∧ Below w.heap.size w w' := by
  have s1 : ∀ W : World, Calls Tryd.prog 27 #[.int .i64 4611686018427387904, .int .i64 4] W fun e w' => e = .returned (.agg #[.int .i64 1, .int .u64 0]) ∧ Below W.heap.size W w' := by
    intro W
    have := prod_any 4611686018427387904 4 (by unfold InR; omega) (by unfold InR; omega) W
    rw [wd_far] at this
    exact this
  have s2 : ∀ W : World, Calls Tryd.prog 14 #[.int .i64 3] W fun e w' => e = .returned (.agg #[.int .i64 0, .int .u64 3]) ∧ Below W.heap.size W w' := by
    intro W
    have := of_any 3 (by unfold InR; omega) W
    rw [wd_three] at this
    exact this
  have s3 : ∀ W : World, Below w.heap.size w W → Calls Tryd.prog 15 #[.agg #[.int .i64 0, .int .u64 3], .int .i64 1] W fun e w' => e = .returned (.agg #[.int .i64 0, .int .u64 2]) ∧ Below W.heap.size W w' := by
    intro W hb
    have := shift_any 3 1 (by unfold InW; omega) (by unfold InR; omega) W (hT.out.up hb)
    rw [show (if (1 : Int) < 1 ∨ (126 : Int) < 1 then (3 : Int) else rqI 3 (2 ^ (1 : Int).toNat)) = 2 by decide, wd_two, wd_three] at this
    exact this
  have s4 : ∀ W : World, Calls Tryd.prog 14 #[.int .i64 2] W fun e w' => e = .returned (.agg #[.int .i64 0, .int .u64 2]) ∧ Below W.heap.size W w' := by
    intro W
    have := of_any 2 (by unfold InR; omega) W
    rw [wd_two] at this
    exact this
  have s5 : ∀ W : World, Calls Tryd.prog 14 #[.int .i64 (-1)] W fun e w' => e = .returned (.agg #[.int .i64 (-1), .int .u64 18446744073709551615]) ∧ Below W.heap.size W w' := by
    intro W
    have := of_any (-1) (by unfold InR; omega) W
    rw [wd_minus] at this
    exact this
  go_enter Tryd.func9, Tryd.ntmps9
  go_wp2_with fail
  refine (s1 _).mono ?_
  rintro e' w1 ⟨rfl, hb1⟩
  go_wp2_with fail
  refine (s2 _).mono ?_
  rintro e' w2 ⟨rfl, hb2⟩
  have hB2 := hb1.trans (hb2.mono hb1.size)
  go_wp2_with fail
  refine (s3 _ hB2).mono ?_
  rintro e' w3 ⟨rfl, hb3⟩
  have hB3 := hB2.trans (hb3.mono hB2.size)
  go_wp2_with fail
  refine (s4 _).mono ?_
  rintro e' w4 ⟨rfl, hb4⟩
  have hB4 := hB3.trans (hb4.mono hB3.size)
  go_wp2_with fail
  refine (s5 _).mono ?_
  rintro e' w5 ⟨rfl, hb5⟩
  have hB5 := hB4.trans (hb5.mono hB4.size)
  go_wp2
  go_ret
  exact ⟨rfl, hB5⟩
end Go.Proofs.YtdbndpcbejofkaaDoor.Wd
