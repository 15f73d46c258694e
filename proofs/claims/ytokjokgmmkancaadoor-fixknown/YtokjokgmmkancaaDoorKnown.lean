/- The law FixKnown: what the chapter says at the ends, and of halves. -/
import Derived.Test.YtokjokgmmkancaaDoorText
import Derived.Test.YtokjokgmmkancaaDoorTurns
namespace Go.Proofs.YtokjokgmmkancaaDoor.Fx
open Go.RowKit Kn
set_option linter.unusedVariables false
theorem rest_min : restI 1 = 2 := by decide +kernel
theorem rest_max : restI 4294967295 = 9999999998 := by decide +kernel
theorem text_min : textI (-1) = [45, 48, 46, 48, 48, 48, 48, 48, 48, 48, 48, 48, 50] := by
  have h : (-1 : Int).natAbs = 1 := rfl
  have hw : wholeI 1 = 0 := by decide +kernel
  unfold textI padI signI
  rw [h, hw, rest_min, Lib.decDigits_one (by omega), Lib.decDigits_one (by omega), Lib.nDigits_small (by omega)]
  rfl
theorem digits_max : Lib.decDigits 9999999998 = [57, 57, 57, 57, 57, 57, 57, 57, 57, 56] := by
  rw [Lib.decDigits, dif_neg (by omega), Lib.decDigits, dif_neg (by omega), Lib.decDigits, dif_neg (by omega), Lib.decDigits, dif_neg (by omega), Lib.decDigits, dif_neg (by omega), Lib.decDigits, dif_neg (by omega), Lib.decDigits, dif_neg (by omega), Lib.decDigits, dif_neg (by omega), Lib.decDigits, dif_neg (by omega), Lib.decDigits, dif_pos (by omega)]
  decide +kernel
theorem text_max : textI 4294967295 = [48, 46, 57, 57, 57, 57, 57, 57, 57, 57, 57, 56] := by
  have h : (4294967295 : Int).natAbs = 4294967295 := rfl
  have hw : wholeI 4294967295 = 0 := by decide +kernel
  have hn : Lib.nDigits 9999999998 = 10 := by rw [← Lib.decDigits_length, digits_max]; rfl
  unfold textI padI signI
  rw [h, hw, rest_max, show 9999999998 % 10000000000 = 9999999998 from rfl, hn, digits_max, Lib.decDigits_one (by omega)]
  rfl
theorem known_any (w : World) (htab : Hid (Tab w)) :
    Calls Tryd.prog 3 #[] w fun e w' => e = .returned (.bool true) ∧ Below w.heap.size w w' := by
  go_enter Tryd.func3, Tryd.ntmps3
  go_wp2_with fail
  refine (awake_any _).mono ?_
  rintro e w1 ⟨rfl, hb1⟩
  go_wp2_with fail
  refine (add_at 9223372036854775807 1 9223372036854775807 (by unfold InR; omega) (by unfold InR; omega) (by decide +kernel) _).mono ?_
  rintro e w2 ⟨rfl, rfl⟩
  go_wp2_with fail
  refine (sub_at (-9223372036854775808) 1 (-9223372036854775808) (by unfold InR; omega) (by unfold InR; omega) (by decide +kernel) _).mono ?_
  rintro e w2 ⟨rfl, rfl⟩
  go_wp2_with fail
  refine (neg_at (-9223372036854775808) 9223372036854775807 (by unfold InR; omega) (by decide +kernel) _).mono ?_
  rintro e w2 ⟨rfl, rfl⟩
  go_wp2_with fail
  refine (div_at 5 0 9223372036854775807 (by unfold InR; omega) (by unfold InR; omega) (by decide +kernel) _).mono ?_
  rintro e w3 ⟨rfl, k1, rfl⟩
  go_wp2_with fail
  refine (div_at (-5) 0 (-9223372036854775808) (by unfold InR; omega) (by unfold InR; omega) (by decide +kernel) _).mono ?_
  rintro e w3 ⟨rfl, k2, rfl⟩
  go_wp2_with fail
  refine (div_at 0 0 0 (by unfold InR; omega) (by unfold InR; omega) (by decide +kernel) _).mono ?_
  rintro e w3 ⟨rfl, k3, rfl⟩
  go_wp2_with fail
  refine (of_at 2147483648 9223372036854775807 (by unfold InR; omega) (by decide +kernel) _).mono ?_
  rintro e w2 ⟨rfl, rfl⟩
  go_wp2_with fail
  refine (of_at (-2147483648) (-9223372036854775808) (by unfold InR; omega) (by decide +kernel) _).mono ?_
  rintro e w2 ⟨rfl, rfl⟩
  go_wp2_with fail
  refine (mul_at 1 2147483648 0 (by unfold InR; omega) (by unfold InR; omega) (by decide +kernel) _).mono ?_
  rintro e w2 ⟨rfl, rfl⟩
  go_wp2_with fail
  refine (mul_at 3 2147483648 2 (by unfold InR; omega) (by unfold InR; omega) (by decide +kernel) _).mono ?_
  rintro e w2 ⟨rfl, rfl⟩
  go_wp2_with fail
  refine (mul_at (-1) 2147483648 0 (by unfold InR; omega) (by unfold InR; omega) (by decide +kernel) _).mono ?_
  rintro e w2 ⟨rfl, rfl⟩
  go_wp2_with fail
  refine (div_at (-9223372036854775808) (-1) 9223372036854775807 (by unfold InR; omega) (by unfold InR; omega) (by decide +kernel) _).mono ?_
  rintro e w3 ⟨rfl, k4, rfl⟩
  go_wp2_with fail
  have hbk := below_drewN hb1 (k1 + k2 + k3 + k4)
  refine (text_at (-1) ⟨#[45, 48, 46, 48, 48, 48, 48, 48, 48, 48, 48, 48, 50]⟩ (by rw [text_min]) (by unfold InR; omega) _ (tab_below htab hbk)).mono ?_
  rintro e w4 ⟨rfl, hb2⟩
  have hb3 := hbk.trans (hb2.mono hbk.size)
  go_wp2_with fail
  refine (text_at 4294967295 ⟨#[48, 46, 57, 57, 57, 57, 57, 57, 57, 57, 57, 56]⟩ (by rw [text_max]) (by unfold InR; omega) _ (tab_below htab hb3)).mono ?_
  rintro e w5 ⟨rfl, hb4⟩
  go_wp2
  go_ret
  exact ⟨rfl, hb3.trans (hb4.mono hb3.size)⟩
end Go.Proofs.YtokjokgmmkancaaDoor.Fx
