/- The law FixReckons: any two numbers' sum, difference, product, quotient are the reference's: for all numbers. -/
import Derived.Test.YtokjokgmmkancaaDoorRefJ
import Derived.Test.YtokjokgmmkancaaDoorTurns
namespace Go.Proofs.YtokjokgmmkancaaDoor.Fx
open Go.RowKit Rf
set_option linter.unusedVariables false
def cmpI (a b : Int) : Int := if a < b then -1 else if b < a then 1 else 0
theorem compare_any (a b c : Int) (hc : cmpI a b = c) (w : World) :
    Calls Tryd.prog 46 #[.int .i64 a, .int .i64 b] w fun e w' => e = .returned (.int .i64 c) ∧ w' = w := by
  have H : Hid (cmpI a b = c) := hc
  clear hc
  rcases Int.lt_or_le a b with h | h
  all_goals
    go_enter Tryd.func46, Tryd.ntmps46
    go_wp2
    all_goals
      go_ret
      refine ⟨ret_int ?_, rfl⟩
      rw [← H.out]
      unfold cmpI
      split <;> (try split) <;> omega
theorem cmp_at (a b c : Int) (hc : cmpI a b = c) (w : World) :
    Calls Tryd.prog 22 #[.int .i64 a, .int .i64 b] w fun e w' => e = .returned (.int .i64 c) ∧ w' = w := by
  have H : Hid (cmpI a b = c) := hc
  clear hc
  go_enter Tryd.func22, Tryd.ntmps22
  go_wp2_with (go_at_call 46; refine (compare_any a b c H.out _).mono ?_; rintro e w' ⟨rfl, rfl⟩)
  go_ret
  exact ⟨rfl, rfl⟩
theorem cmp_ref (a b c : Int) (hc : cmpI a b = c) (w : World) :
    Calls Tryd.prog 23 #[.int .i64 a, .int .i64 b] w fun e w' => e = .returned (.int .i64 c) ∧ w' = w := by
  have H : Hid (cmpI a b = c) := hc
  clear hc
  go_enter Tryd.func23, Tryd.ntmps23
  go_wp2
  all_goals
    go_ret
    refine ⟨ret_int ?_, rfl⟩
    rw [← H.out]
    unfold cmpI
    split <;> (try split) <;> omega
theorem reckons_any (a b : Int) (ha : InR a) (hb : InR b) (w : World) :
    Calls Tryd.prog 4 #[.int .i64 a, .int .i64 b] w fun e w' => e = .returned (.bool true) ∧ Below w.heap.size w w' := by
  obtain ⟨y1, e1⟩ : ∃ y, hold (a + b) = y := ⟨_, rfl⟩
  obtain ⟨y2, e2⟩ : ∃ y, hold (a - b) = y := ⟨_, rfl⟩
  obtain ⟨y3, e3⟩ : ∃ y, mulI a b = y := ⟨_, rfl⟩
  obtain ⟨y4, e4⟩ : ∃ y, divI a b = y := ⟨_, rfl⟩
  obtain ⟨y5, e5⟩ : ∃ y, hold (-a) = y := ⟨_, rfl⟩
  obtain ⟨y6, e6⟩ : ∃ y, cmpI a b = y := ⟨_, rfl⟩
  have E : Hid (hold (a + b) = y1 ∧ hold (a - b) = y2 ∧ mulI a b = y3 ∧ divI a b = y4 ∧ hold (-a) = y5 ∧ cmpI a b = y6) := ⟨e1, e2, e3, e4, e5, e6⟩
  clear e1 e2 e3 e4 e5 e6
  go_enter Tryd.func4, Tryd.ntmps4
  go_wp2_with fail
  refine (awake_any _).mono ?_
  rintro e w1 ⟨rfl, hb1⟩
  go_wp2_with fail
  refine (add_at a b y1 ha hb E.out.1 _).mono ?_
  rintro e w2 ⟨rfl, rfl⟩
  go_wp2_with fail
  refine (add_ref a b ha hb y1 E.out.1 _).mono ?_
  rintro e w3 ⟨rfl, hb2⟩
  go_wp2_with fail
  refine (sub_at a b y2 ha hb E.out.2.1 _).mono ?_
  rintro e w4 ⟨rfl, rfl⟩
  go_wp2_with fail
  refine (sub_ref a b ha hb y2 E.out.2.1 _).mono ?_
  rintro e w5 ⟨rfl, hb3⟩
  go_wp2_with fail
  refine (mul_at a b y3 ha hb E.out.2.2.1 _).mono ?_
  rintro e w6 ⟨rfl, rfl⟩
  go_wp2_with fail
  refine (mul_ref a b ha hb y3 E.out.2.2.1 _).mono ?_
  rintro e w7 ⟨rfl, hb4⟩
  go_wp2_with fail
  refine (div_at a b y4 ha hb E.out.2.2.2.1 _).mono ?_
  rintro e w8 ⟨rfl, k, rfl⟩
  go_wp2_with fail
  refine (div_ref a b ha hb y4 E.out.2.2.2.1 _).mono ?_
  rintro e w9 ⟨rfl, hb5⟩
  go_wp2_with fail
  refine (neg_at a y5 ha E.out.2.2.2.2.1 _).mono ?_
  rintro e w10 ⟨rfl, rfl⟩
  go_wp2_with fail
  refine (neg_ref a ha y5 E.out.2.2.2.2.1 _).mono ?_
  rintro e w11 ⟨rfl, hb6⟩
  go_wp2_with fail
  refine (cmp_at a b y6 E.out.2.2.2.2.2 _).mono ?_
  rintro e w12 ⟨rfl, rfl⟩
  go_wp2_with fail
  refine (cmp_ref a b y6 E.out.2.2.2.2.2 _).mono ?_
  rintro e w13 ⟨rfl, rfl⟩
  go_wp2
  go_ret
  have c1 := hb1.trans (hb2.mono hb1.size)
  have c2 := c1.trans (hb3.mono c1.size)
  have c3 := c2.trans (hb4.mono c2.size)
  have c4 := c3.trans (below_drewN (Below.refl _ _) k)
  have c5 := c4.trans (hb5.mono c4.size)
  exact ⟨rfl, c5.trans (hb6.mono c5.size)⟩
end Go.Proofs.YtokjokgmmkancaaDoor.Fx
