/- What fix.Text hands back of one, and that the law's look at a third, at one, answers true. -/
import Derived.Test.YtokjokgmmkancaaDoorDiv
import Derived.Below
import Derived.WalkSmall
import Derived.Lib.ItoaNum
namespace Go.Proofs.YtokjokgmmkancaaDoor.Fx
open Go.RowKit Kn
set_option linter.unusedVariables false
theorem fmtSmall_in (i : Nat) (h : i < 100) (w : World) :
    Calls Tryd.prog 50 #[.int .u64 i, .int .i64 10] w fun e w' => e = .returned (.string ⟨(Lib.decDigits i).toArray⟩) ∧ w' = w := by
  go_enter Tryd.func50, Tryd.ntmps50
  go_wp2_with (go_at_call 58; refine (Tryd.internal_strconv_small i h _).mono ?_; rintro e w' ⟨rfl, rfl⟩)
  go_ret
  exact ⟨rfl, rfl⟩
theorem fmtSmall (i : Nat) (h : i < 100) (w : World) :
    Calls Tryd.prog 35 #[.int .u64 i, .int .i64 10] w fun e w' => e = .returned (.string ⟨(Lib.decDigits i).toArray⟩) ∧ w' = w := by
  go_enter Tryd.func35, Tryd.ntmps35
  go_wp2_with (go_at_call 50; refine (fmtSmall_in i h _).mono ?_; rintro e w' ⟨rfl, rfl⟩)
  go_ret
  exact ⟨rfl, rfl⟩
theorem digit_zero : (⟨(Lib.decDigits 0).toArray⟩ : ByteArray) = ⟨#[48]⟩ := by rw [Lib.decDigits_one (by omega)]; rfl
theorem digit_one : (⟨(Lib.decDigits 1).toArray⟩ : ByteArray) = ⟨#[49]⟩ := by rw [Lib.decDigits_one (by omega)]; rfl
theorem fmt_zero (w : World) : Calls Tryd.prog 35 #[.int .u64 0, .int .i64 10] w fun e w' => e = .returned (.string ⟨#[48]⟩) ∧ w' = w := by
  have := fmtSmall 0 (by omega) w
  rw [digit_zero] at this
  exact this
theorem fmt_one (w : World) : Calls Tryd.prog 35 #[.int .u64 1, .int .i64 10] w fun e w' => e = .returned (.string ⟨#[49]⟩) ∧ w' = w := by
  have := fmtSmall 1 (by omega) w
  rw [digit_one] at this
  exact this
theorem rep_nine (w : World) : Calls Tryd.prog 51 #[.string ⟨#[48]⟩, .int .i64 9] w fun e w' => e = .returned (.string ⟨#[48, 48, 48, 48, 48, 48, 48, 48, 48]⟩) ∧ Below w.heap.size w w' := by
  have := Tryd.strings_Repeat ⟨#[48]⟩ 9 w (by omega) (by decide)
  exact this
theorem ret_str {a b : ByteArray} (h : a = b) : Ending.returned (.string a) = .returned (.string b) := by rw [h]
theorem padded_zero (w : World) :
    Calls Tryd.prog 36 #[.int .u64 0] w fun e w' => e = .returned (.string ⟨#[48, 48, 48, 48, 48, 48, 48, 48, 48, 48]⟩) ∧ Below w.heap.size w w' := by
  go_enter Tryd.func36, Tryd.ntmps36
  go_wp2_with fail
  refine (fmt_zero _).mono ?_
  rintro e w' ⟨rfl, rfl⟩
  go_wp2_with fail
  refine (rep_nine _).mono ?_
  rintro e w2 ⟨rfl, hb⟩
  go_wp2
  go_ret
  exact ⟨rfl, hb⟩
theorem mul_nought (w : World) : Calls Tryd.prog 32 #[.int .u64 0, .int .u64 10000000000] w fun e w' => e = .returned (.tuple #[.int .u64 0, .int .u64 0]) ∧ w' = w :=
  mul64_at 0 10000000000 0 0 (by omega) (by omega) (by decide) (by decide) w
theorem parts_nought (w : World) : Calls Tryd.prog 33 #[.int .u64 0, .int .u64 0] w fun e w' => e = .returned (.int .u64 0) ∧ w' = w := by
  have c := byParts_any 0 0 (by omega) (by omega) w
  rw [show rq (0 * 18446744073709551616 + 0) 4294967296 = 0 by decide] at c
  exact c
theorem sign_up (w : World) : Calls Tryd.prog 34 #[.int .i64 4294967296] w fun e w' => e = .returned (.string ⟨#[]⟩) ∧ w' = w := by
  go_enter Tryd.func34, Tryd.ntmps34
  go_wp2
  go_ret
  exact ⟨rfl, rfl⟩
theorem text_one (w : World) :
    Calls Tryd.prog 16 #[.int .i64 4294967296] w fun e w' => e = .returned (.string ⟨#[49, 46, 48, 48, 48, 48, 48, 48, 48, 48, 48, 48]⟩) ∧ Below w.heap.size w w' := by
  go_enter Tryd.func16, Tryd.ntmps16
  go_wp2_with fail
  refine (size_int 4294967296 4294967296 (by unfold InR; omega) rfl _).mono ?_
  rintro e w' ⟨rfl, rfl⟩
  go_wp2_with fail
  rw [maskI 4294967296 (by omega) (by omega)]
  refine (mul_nought _).mono ?_
  rintro e w' ⟨rfl, rfl⟩
  go_wp2_with fail
  refine (parts_nought _).mono ?_
  rintro e w' ⟨rfl, rfl⟩
  go_wp2_with fail
  refine (sign_up _).mono ?_
  rintro e w' ⟨rfl, rfl⟩
  go_wp2_with fail
  refine (fmt_one _).mono ?_
  rintro e w' ⟨rfl, rfl⟩
  go_wp2_with fail
  refine (padded_zero _).mono ?_
  rintro e w2 ⟨rfl, hb⟩
  go_wp2
  go_ret
  exact ⟨rfl, hb⟩
theorem of_three (w : World) : Calls Tryd.prog 14 #[.int .i64 3] w fun e w' => e = .returned (.int .i64 12884901888) ∧ w' = w := of_any 3 (by unfold InR; omega) w
theorem mul_one_one (w : World) : Calls Tryd.prog 15 #[.int .i64 4294967296, .int .i64 4294967296] w fun e w' => e = .returned (.int .i64 4294967296) ∧ w' = w := by
  have c := mul_any 4294967296 4294967296 (by unfold InR; omega) (by unfold InR; omega) w
  rw [show mulI 4294967296 4294967296 = 4294967296 by decide +kernel] at c
  exact c
theorem div_one_three (w : World) : Calls Tryd.prog 13 #[.int .i64 4294967296, .int .i64 12884901888] w fun e w' => e = .returned (.int .i64 1431655765) ∧ ∃ n, w' = w.drewN n := by
  have c := div_any 4294967296 12884901888 (by unfold InR; omega) (by unfold InR; omega) w
  rw [show divI 4294967296 12884901888 = 1431655765 by decide +kernel] at c
  exact c
theorem awake_any (w : World) :
    Calls Tryd.prog 9 #[] w fun e w' => e = .returned (.bool true) ∧ Below w.heap.size w w' := by
  go_enter Tryd.func9, Tryd.ntmps9
  go_wp2_with fail
  refine (mul_one_one _).mono ?_
  rintro e w' ⟨rfl, rfl⟩
  go_wp2_with fail
  refine (of_three _).mono ?_
  rintro e w' ⟨rfl, rfl⟩
  go_wp2_with fail
  refine (div_one_three _).mono ?_
  rintro e w2 ⟨rfl, n, rfl⟩
  go_wp2_with fail
  refine (text_one _).mono ?_
  rintro e w2 ⟨rfl, hb⟩
  go_wp2
  go_ret
  refine ⟨rfl, ?_⟩
  exact (below_drewN (Below.refl _ _) n).trans (by simpa using hb)
end Go.Proofs.YtokjokgmmkancaaDoor.Fx
