/- The law FixTurns: sums and products are the same the other way round; a number turned round twice is itself, but for the least; by one, by nought: for all numbers. -/
import Derived.Test.YtokjokgmmkancaaDoorNamed
namespace Go.Proofs.YtokjokgmmkancaaDoor.Fx
open Go.RowKit Kn
set_option linter.unusedVariables false
theorem neg_any (a : Int) (ha : InR a) (w : World) :
    Calls Tryd.prog 12 #[.int .i64 a] w fun e w' => e = .returned (.int .i64 (hold (-a))) ∧ w' = w := by
  go_enter Tryd.func12, Tryd.ntmps12
  go_wp2_with (go_at_call 11; refine (sub_any 0 a (by unfold InR; omega) ha _).mono ?_; rintro e w' ⟨rfl, rfl⟩)
  go_ret
  exact ⟨rfl, rfl⟩
theorem neg_at (a y : Int) (ha : InR a) (ey : hold (-a) = y) (w : World) :
    Calls Tryd.prog 12 #[.int .i64 a] w fun e w' => e = .returned (.int .i64 y) ∧ w' = w := by
  subst ey
  exact neg_any a ha w
theorem turns_any (a b : Int) (ha : InR a) (hb : InR b) (w : World) :
    Calls Tryd.prog 6 #[.int .i64 a, .int .i64 b] w fun e w' => e = .returned (.bool true) ∧ Below w.heap.size w w' := by
  obtain ⟨s, es⟩ : ∃ s, hold (a + b) = s := ⟨_, rfl⟩
  obtain ⟨m, em⟩ : ∃ m, mulI a b = m := ⟨_, rfl⟩
  obtain ⟨n, en⟩ : ∃ n, hold (-a) = n := ⟨_, rfl⟩
  have hn : InR n := by rw [← en]; exact hold_rng _
  have hone : InR 4294967296 := by unfold InR; omega
  have hnul : InR 0 := by unfold InR; omega
  have E : Hid (hold (a + b) = s ∧ hold (b + a) = s ∧ mulI a b = m ∧ mulI b a = m ∧ hold (-a) = n ∧ (a ≠ -9223372036854775808 → hold (-n) = a) ∧ hold (a + 0) = a ∧ hold (a - a) = 0) := by
    refine ⟨es, by rw [Int.add_comm]; exact es, em, by rw [mulI_comm]; exact em, en, fun h => ?_, by rw [Int.add_zero]; exact hold_in ha.1 ha.2, by rw [Int.sub_self]; exact hold_in (by omega) (by omega)⟩
    unfold InR at ha
    rw [hold_in (by omega) (by omega)] at en
    subst en
    rw [Int.neg_neg]
    exact hold_in ha.1 ha.2
  clear es em en
  by_cases hl : a = -9223372036854775808
  · have hl' : (a == -9223372036854775808) = true := by simpa using hl
    clear hl
    go_enter Tryd.func6, Tryd.ntmps6
    go_wp2_with fail
    refine (awake_any _).mono ?_
    rintro e w1 ⟨rfl, hb1⟩
    go_wp2_with fail
    refine (add_at a b s ha hb E.out.1 _).mono ?_
    rintro e w2 ⟨rfl, rfl⟩
    go_wp2_with fail
    refine (add_at b a s hb ha E.out.2.1 _).mono ?_
    rintro e w2 ⟨rfl, rfl⟩
    go_wp2_with fail
    refine (mul_at a b m ha hb E.out.2.2.1 _).mono ?_
    rintro e w2 ⟨rfl, rfl⟩
    go_wp2_with fail
    refine (mul_at b a m hb ha E.out.2.2.2.1 _).mono ?_
    rintro e w2 ⟨rfl, rfl⟩
    go_wp2_with fail
    refine (mul_at a 4294967296 a ha hone (mulI_one a ha) _).mono ?_
    rintro e w2 ⟨rfl, rfl⟩
    go_wp2_with fail
    refine (div_at a 4294967296 a ha hone (divI_one a ha) _).mono ?_
    rintro e w3 ⟨rfl, k, rfl⟩
    go_wp2_with fail
    refine (add_at a 0 a ha hnul E.out.2.2.2.2.2.2.1 _).mono ?_
    rintro e w2 ⟨rfl, rfl⟩
    go_wp2_with fail
    refine (sub_at a a 0 ha ha E.out.2.2.2.2.2.2.2 _).mono ?_
    rintro e w2 ⟨rfl, rfl⟩
    go_wp2
    go_ret
    exact ⟨rfl, below_drewN hb1 k⟩
  · have hl' : (a == -9223372036854775808) = false := by simpa using hl
    have hl : Hid (a ≠ -9223372036854775808) := hl
    go_enter Tryd.func6, Tryd.ntmps6
    go_wp2_with fail
    refine (awake_any _).mono ?_
    rintro e w1 ⟨rfl, hb1⟩
    go_wp2_with fail
    refine (add_at a b s ha hb E.out.1 _).mono ?_
    rintro e w2 ⟨rfl, rfl⟩
    go_wp2_with fail
    refine (add_at b a s hb ha E.out.2.1 _).mono ?_
    rintro e w2 ⟨rfl, rfl⟩
    go_wp2_with fail
    refine (mul_at a b m ha hb E.out.2.2.1 _).mono ?_
    rintro e w2 ⟨rfl, rfl⟩
    go_wp2_with fail
    refine (mul_at b a m hb ha E.out.2.2.2.1 _).mono ?_
    rintro e w2 ⟨rfl, rfl⟩
    go_wp2_with fail
    refine (neg_at a n ha E.out.2.2.2.2.1 _).mono ?_
    rintro e w2 ⟨rfl, rfl⟩
    go_wp2_with fail
    refine (neg_at n a hn (E.out.2.2.2.2.2.1 hl.out) _).mono ?_
    rintro e w2 ⟨rfl, rfl⟩
    go_wp2_with fail
    refine (mul_at a 4294967296 a ha hone (mulI_one a ha) _).mono ?_
    rintro e w2 ⟨rfl, rfl⟩
    go_wp2_with fail
    refine (div_at a 4294967296 a ha hone (divI_one a ha) _).mono ?_
    rintro e w3 ⟨rfl, k, rfl⟩
    go_wp2_with fail
    refine (add_at a 0 a ha hnul E.out.2.2.2.2.2.2.1 _).mono ?_
    rintro e w2 ⟨rfl, rfl⟩
    go_wp2_with fail
    refine (sub_at a a 0 ha ha E.out.2.2.2.2.2.2.2 _).mono ?_
    rintro e w2 ⟨rfl, rfl⟩
    go_wp2
    go_ret
    exact ⟨rfl, below_drewN hb1 k⟩
end Go.Proofs.YtokjokgmmkancaaDoor.Fx
