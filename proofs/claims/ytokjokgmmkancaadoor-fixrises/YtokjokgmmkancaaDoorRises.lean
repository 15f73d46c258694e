/- The law FixRises: what is reckoned with a greater number is no less: for all numbers. -/
import Derived.Test.YtokjokgmmkancaaDoorNamed
namespace Go.Proofs.YtokjokgmmkancaaDoor.Fx
open Go.RowKit Kn
set_option linter.unusedVariables false
theorem rises_any (a b c : Int) (ha : InR a) (hb : InR b) (hc : InR c) (w : World) :
    Calls Tryd.prog 7 #[.int .i64 a, .int .i64 b, .int .i64 c] w fun e w' => e = .returned (.bool true) ∧ Below w.heap.size w w' := by
  by_cases hab : b < a
  · go_enter Tryd.func7, Tryd.ntmps7
    go_wp2_with fail
    refine (awake_any _).mono ?_
    rintro e w1 ⟨rfl, hb1⟩
    go_wp2
    go_ret
    exact ⟨rfl, hb1⟩
  · obtain ⟨s1, e1⟩ : ∃ s, hold (a + c) = s := ⟨_, rfl⟩
    obtain ⟨s2, e2⟩ : ∃ s, hold (b + c) = s := ⟨_, rfl⟩
    obtain ⟨t1, f1⟩ : ∃ s, hold (c - a) = s := ⟨_, rfl⟩
    obtain ⟨t2, f2⟩ : ∃ s, hold (c - b) = s := ⟨_, rfl⟩
    obtain ⟨m1, g1⟩ : ∃ s, mulI a c = s := ⟨_, rfl⟩
    obtain ⟨m2, g2⟩ : ∃ s, mulI b c = s := ⟨_, rfl⟩
    obtain ⟨d1, k1⟩ : ∃ s, divI a c = s := ⟨_, rfl⟩
    obtain ⟨d2, k2⟩ : ∃ s, divI b c = s := ⟨_, rfl⟩
    have E : Hid (hold (a + c) = s1 ∧ hold (b + c) = s2 ∧ hold (c - a) = t1 ∧ hold (c - b) = t2 ∧ mulI a c = m1 ∧ mulI b c = m2 ∧ divI a c = d1 ∧ divI b c = d2) := ⟨e1, e2, f1, f2, g1, g2, k1, k2⟩
    have hs : s1 ≤ s2 := by rw [← e1, ← e2]; exact hold_mono (by omega)
    have ht : t2 ≤ t1 := by rw [← f1, ← f2]; exact hold_mono (by omega)
    have hm : (0 ≤ c ∧ m1 ≤ m2) ∨ (c < 0 ∧ m2 ≤ m1) := by
      rcases Int.lt_or_le c 0 with h | h
      · exact Or.inr ⟨h, by rw [← g1, ← g2]; exact mulI_ge a b c (by omega) h⟩
      · exact Or.inl ⟨h, by rw [← g1, ← g2]; exact mulI_le a b c (by omega) h⟩
    have hd : 0 < c → d1 ≤ d2 := fun h => by rw [← k1, ← k2]; exact divI_le a b c (by omega) h
    clear e1 e2 f1 f2 g1 g2 k1 k2
    rcases hm with ⟨h0, hm⟩ | ⟨h0, hm⟩
    · by_cases hz : c = 0
      · have hz' : (c == 0) = true := by simpa using hz
        clear hz hd
        go_enter Tryd.func7, Tryd.ntmps7
        go_wp2_with fail
        refine (awake_any _).mono ?_
        rintro e w1 ⟨rfl, hb1⟩
        go_wp2_with fail
        refine (add_at a c s1 ha hc E.out.1 _).mono ?_
        rintro e w2 ⟨rfl, rfl⟩
        go_wp2_with fail
        refine (add_at b c s2 hb hc E.out.2.1 _).mono ?_
        rintro e w2 ⟨rfl, rfl⟩
        go_wp2_with fail
        refine (sub_at c a t1 hc ha E.out.2.2.1 _).mono ?_
        rintro e w2 ⟨rfl, rfl⟩
        go_wp2_with fail
        refine (sub_at c b t2 hc hb E.out.2.2.2.1 _).mono ?_
        rintro e w2 ⟨rfl, rfl⟩
        go_wp2_with fail
        refine (mul_at a c m1 ha hc E.out.2.2.2.2.1 _).mono ?_
        rintro e w2 ⟨rfl, rfl⟩
        go_wp2_with fail
        refine (mul_at b c m2 hb hc E.out.2.2.2.2.2.1 _).mono ?_
        rintro e w2 ⟨rfl, rfl⟩
        go_wp2
        go_ret
        exact ⟨rfl, hb1⟩
      · have hz' : (c == 0) = false := by simpa using hz
        have hd' := hd (by omega)
        clear hz hd
        go_enter Tryd.func7, Tryd.ntmps7
        go_wp2_with fail
        refine (awake_any _).mono ?_
        rintro e w1 ⟨rfl, hb1⟩
        go_wp2_with fail
        refine (add_at a c s1 ha hc E.out.1 _).mono ?_
        rintro e w2 ⟨rfl, rfl⟩
        go_wp2_with fail
        refine (add_at b c s2 hb hc E.out.2.1 _).mono ?_
        rintro e w2 ⟨rfl, rfl⟩
        go_wp2_with fail
        refine (sub_at c a t1 hc ha E.out.2.2.1 _).mono ?_
        rintro e w2 ⟨rfl, rfl⟩
        go_wp2_with fail
        refine (sub_at c b t2 hc hb E.out.2.2.2.1 _).mono ?_
        rintro e w2 ⟨rfl, rfl⟩
        go_wp2_with fail
        refine (mul_at a c m1 ha hc E.out.2.2.2.2.1 _).mono ?_
        rintro e w2 ⟨rfl, rfl⟩
        go_wp2_with fail
        refine (mul_at b c m2 hb hc E.out.2.2.2.2.2.1 _).mono ?_
        rintro e w2 ⟨rfl, rfl⟩
        go_wp2_with fail
        refine (div_at a c d1 ha hc E.out.2.2.2.2.2.2.1 _).mono ?_
        rintro e w3 ⟨rfl, k, rfl⟩
        go_wp2_with fail
        refine (div_at b c d2 hb hc E.out.2.2.2.2.2.2.2 _).mono ?_
        rintro e w4 ⟨rfl, k2, rfl⟩
        go_wp2
        go_ret
        exact ⟨rfl, below_drewN hb1 _⟩
    · clear hd
      go_enter Tryd.func7, Tryd.ntmps7
      go_wp2_with fail
      refine (awake_any _).mono ?_
      rintro e w1 ⟨rfl, hb1⟩
      go_wp2_with fail
      refine (add_at a c s1 ha hc E.out.1 _).mono ?_
      rintro e w2 ⟨rfl, rfl⟩
      go_wp2_with fail
      refine (add_at b c s2 hb hc E.out.2.1 _).mono ?_
      rintro e w2 ⟨rfl, rfl⟩
      go_wp2_with fail
      refine (sub_at c a t1 hc ha E.out.2.2.1 _).mono ?_
      rintro e w2 ⟨rfl, rfl⟩
      go_wp2_with fail
      refine (sub_at c b t2 hc hb E.out.2.2.2.1 _).mono ?_
      rintro e w2 ⟨rfl, rfl⟩
      go_wp2_with fail
      refine (mul_at a c m1 ha hc E.out.2.2.2.2.1 _).mono ?_
      rintro e w2 ⟨rfl, rfl⟩
      go_wp2_with fail
      refine (mul_at b c m2 hb hc E.out.2.2.2.2.2.1 _).mono ?_
      rintro e w2 ⟨rfl, rfl⟩
      go_wp2
      go_ret
      exact ⟨rfl, hb1⟩
end Go.Proofs.YtokjokgmmkancaaDoor.Fx
