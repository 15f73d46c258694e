/- The reference's Of, Bend and Slope: what they hand back. -/
import Derived.Test.YtlehlikgehbnfaaActM
import Derived.Test.YtlehlikgehbnfaaRefJ
namespace Go.Proofs.Ytlehlikgehbnfaa.Rf
open Go.RowKit Fx
set_option linter.unusedVariables false
set_option linter.unusedSimpArgs false
theorem ofr_ref (n y : Int) (hn : InR n) (ey : hold (n * 4294967296) = y) (w : World) :
    Calls Try.prog 28 #[.int .i64 n] w fun e w' => e = .returned (.int .i64 y) ∧ Below w.heap.size w w' := by
  have E : Hid (hold (n * 4294967296) = y) := ey
  clear ey
  have hsm : (n.natAbs : Int) * 4294967296 < 115792089237316195423570985008687907853269984665640564039457584007913129639936 := by unfold InR at hn; omega
  have HS : Hid ((n.natAbs : Int) * 4294967296 < 115792089237316195423570985008687907853269984665640564039457584007913129639936) := hsm
  clear hsm
  go_enter Try.func28, Try.ntmps28
  go_wp2_with fail
  refine (from_any n hn _).mono ?_
  rintro e w1 ⟨v, rfl, hv, hb1⟩
  go_wp2_with fail
  refine (shifted_any v _ _ hv HS.out _).mono ?_
  rintro e w2 ⟨u, rfl, hu, hb2⟩
  go_wp2_with fail
  refine (held_ref u _ _ hu _).mono ?_
  rintro e w3 ⟨rfl, hb3⟩
  go_wp2
  go_ret
  have c1 := hb1.trans (hb2.mono hb1.size)
  refine ⟨ret_int ?_, c1.trans (hb3.mono c1.size)⟩
  rw [← E.out]
  congr 1
  unfold sv
  by_cases h : n < 0
  · rw [if_pos (by simpa using h)]; omega
  · rw [if_neg (by simpa using h)]; omega
theorem rup {w w1 w2 : World} (h : Below w.heap.size w w1) (h2 : Below w1.heap.size w1 w2) : Below w.heap.size w w2 := h.trans (h2.mono h.size)
set_option maxHeartbeats 1000000 in
theorem rb1 (x : Int) (hx : InR x) (w : World) :
    Calls Try.prog 15 #[.int .i64 1, .int .i64 x] w fun e w' => e = .returned (.int .i64 (bendI 1 x)) ∧ Below w.heap.size w w' := by
  rw [bend_1]
  by_cases h : x < 0
  · rw [if_pos h]
    go_enter Try.func15, Try.ntmps15
    go_wp2
    go_ret
    exact ⟨rfl, Below.refl _ _⟩
  · rw [if_neg h]
    have h' : 0 ≤ x := by omega
    go_enter Try.func15, Try.ntmps15
    go_wp2
    go_ret
    exact ⟨rfl, Below.refl _ _⟩
set_option maxHeartbeats 1000000 in
theorem rb2 (x : Int) (hx : InR x) (w : World) :
    Calls Try.prog 15 #[.int .i64 2, .int .i64 x] w fun e w' => e = .returned (.int .i64 (bendI 2 x)) ∧ Below w.heap.size w w' := by
  rw [bend_2]
  by_cases h : 0 < x
  · rw [if_pos h]
    go_enter Try.func15, Try.ntmps15
    go_wp2
    go_ret
    exact ⟨rfl, Below.refl _ _⟩
  · rw [if_neg h]
    obtain ⟨y, ey⟩ : ∃ y, by8 x = y := ⟨_, rfl⟩
    rw [ey]
    have h' : x ≤ 0 := by omega
    have c8 : ∀ W, Calls Try.prog 28 #[.int .i64 8] W fun e w' => e = .returned (.int .i64 34359738368) ∧ Below W.heap.size W w' := fun W => ofr_ref 8 _ (by unfold InR; omega) (by decide) W
    have cd : ∀ W, Calls Try.prog 27 #[.int .i64 x, .int .i64 34359738368] W fun e w' => e = .returned (.int .i64 y) ∧ Below W.heap.size W w' := fun W => div_ref x _ hx (by unfold InR; omega) y ((div8 hx).trans ey) W
    clear hx h ey
    go_enter Try.func15, Try.ntmps15
    go_wp2_with fail
    refine (c8 _).mono ?_
    rintro e w1 ⟨rfl, hB1⟩
    go_wp2_with fail
    refine (cd _).mono ?_
    rintro e w2 ⟨rfl, hB2⟩
    go_wp2
    go_ret
    exact ⟨rfl, rup hB1 hB2⟩
set_option maxHeartbeats 1000000 in
theorem rb3 (x : Int) (hx : InR x) (w : World) :
    Calls Try.prog 15 #[.int .i64 3, .int .i64 x] w fun e w' => e = .returned (.int .i64 (bendI 3 x)) ∧ Below w.heap.size w w' := by
  rw [bend_3]
  by_cases h : 4294967296 < x
  · rw [if_pos h]
    go_enter Try.func15, Try.ntmps15
    go_wp2
    go_ret
    exact ⟨rfl, Below.refl _ _⟩
  · rw [if_neg h]
    have h' : x ≤ 4294967296 := by omega
    by_cases h2 : x < -4294967296
    · rw [if_pos h2]
      go_enter Try.func15, Try.ntmps15
      go_wp2
      go_ret
      exact ⟨rfl, Below.refl _ _⟩
    · rw [if_neg h2]
      have h2' : -4294967296 ≤ x := by omega
      go_enter Try.func15, Try.ntmps15
      go_wp2
      go_ret
      exact ⟨rfl, Below.refl _ _⟩
set_option maxHeartbeats 1000000 in
theorem rb4 (x : Int) (hx : InR x) (w : World) :
    Calls Try.prog 15 #[.int .i64 4, .int .i64 x] w fun e w' => e = .returned (.int .i64 (bendI 4 x)) ∧ Below w.heap.size w w' := by
  rw [bend_4]
  by_cases h : x < 0
  · rw [if_pos h]
    have cn := neg_ref x hx _ rfl w
    go_enter Try.func15, Try.ntmps15
    go_wp2_with fail
    refine cn.mono ?_
    rintro e w1 ⟨rfl, hB1⟩
    go_wp2
    go_ret
    exact ⟨rfl, hB1⟩
  · rw [if_neg h]
    have h' : 0 ≤ x := by omega
    go_enter Try.func15, Try.ntmps15
    go_wp2
    go_ret
    exact ⟨rfl, Below.refl _ _⟩
set_option maxHeartbeats 1000000 in
theorem rb5 (x : Int) (hx : InR x) (w : World) :
    Calls Try.prog 15 #[.int .i64 5, .int .i64 x] w fun e w' => e = .returned (.int .i64 (bendI 5 x)) ∧ Below w.heap.size w w' := by
  rw [bend_5]
  obtain ⟨a, ea⟩ : ∃ a, by2 x = a := ⟨_, rfl⟩
  have ha : InR a := by rw [← ea]; exact by2_rng hx
  obtain ⟨b, eb⟩ : ∃ b, hold (a + 2147483648) = b := ⟨_, rfl⟩
  rw [ea, eb]
  have c8 : ∀ W, Calls Try.prog 28 #[.int .i64 2] W fun e w' => e = .returned (.int .i64 8589934592) ∧ Below W.heap.size W w' := fun W => ofr_ref 2 _ (by unfold InR; omega) (by decide) W
  have cd : ∀ W, Calls Try.prog 27 #[.int .i64 x, .int .i64 8589934592] W fun e w' => e = .returned (.int .i64 a) ∧ Below W.heap.size W w' := fun W => div_ref x _ hx (by unfold InR; omega) a ((div2 hx).trans ea) W
  have ca : ∀ W, Calls Try.prog 30 #[.int .i64 a, .int .i64 2147483648] W fun e w' => e = .returned (.int .i64 b) ∧ Below W.heap.size W w' := fun W => add_ref a _ ha (by unfold InR; omega) b eb W
  clear hx ha ea eb
  by_cases h : b < 0
  · rw [if_pos h]
    go_enter Try.func15, Try.ntmps15
    go_wp2_with fail
    refine (c8 _).mono ?_
    rintro e w1 ⟨rfl, hB1⟩
    go_wp2_with fail
    refine (cd _).mono ?_
    rintro e w2 ⟨rfl, hB2⟩
    go_wp2_with fail
    refine (ca _).mono ?_
    rintro e w3 ⟨rfl, hB3⟩
    have HB : Hid (Below w.heap.size w w3) := rup (rup hB1 hB2) hB3
    clear hB1 hB2 hB3 c8 cd ca
    go_wp2
    go_ret
    exact ⟨rfl, HB.out⟩
  · rw [if_neg h]
    have h' : 0 ≤ b := by omega
    by_cases h2 : 4294967296 < b
    · rw [if_pos h2]
      go_enter Try.func15, Try.ntmps15
      go_wp2_with fail
      refine (c8 _).mono ?_
      rintro e w1 ⟨rfl, hB1⟩
      go_wp2_with fail
      refine (cd _).mono ?_
      rintro e w2 ⟨rfl, hB2⟩
      go_wp2_with fail
      refine (ca _).mono ?_
      rintro e w3 ⟨rfl, hB3⟩
      have HB : Hid (Below w.heap.size w w3) := rup (rup hB1 hB2) hB3
      clear hB1 hB2 hB3 c8 cd ca
      go_wp2
      go_ret
      exact ⟨rfl, HB.out⟩
    · rw [if_neg h2]
      have h2' : b ≤ 4294967296 := by omega
      go_enter Try.func15, Try.ntmps15
      go_wp2_with fail
      refine (c8 _).mono ?_
      rintro e w1 ⟨rfl, hB1⟩
      go_wp2_with fail
      refine (cd _).mono ?_
      rintro e w2 ⟨rfl, hB2⟩
      go_wp2_with fail
      refine (ca _).mono ?_
      rintro e w3 ⟨rfl, hB3⟩
      have HB : Hid (Below w.heap.size w w3) := rup (rup hB1 hB2) hB3
      clear hB1 hB2 hB3 c8 cd ca
      go_wp2
      go_ret
      exact ⟨rfl, HB.out⟩
theorem rbend_any (k x : Int) (hk : 1 ≤ k ∧ k ≤ 5) (hx : InR x) (y : Int) (ey : bendI k x = y) (w : World) :
    Calls Try.prog 15 #[.int .i64 k, .int .i64 x] w fun e w' => e = .returned (.int .i64 y) ∧ Below w.heap.size w w' := by
  subst ey
  have : k = 1 ∨ k = 2 ∨ k = 3 ∨ k = 4 ∨ k = 5 := by omega
  rcases this with rfl | rfl | rfl | rfl | rfl
  · exact rb1 x hx w
  · exact rb2 x hx w
  · exact rb3 x hx w
  · exact rb4 x hx w
  · exact rb5 x hx w
set_option maxHeartbeats 1000000 in
theorem rs1 (x : Int) (hx : InR x) (w : World) :
    Calls Try.prog 16 #[.int .i64 1, .int .i64 x] w fun e w' => e = .returned (.int .i64 (slopeI 1 x)) ∧ Below w.heap.size w w' := by
  rw [slope_1]
  by_cases h : 0 < x
  · rw [if_pos h]
    go_enter Try.func16, Try.ntmps16
    go_wp2
    go_ret
    exact ⟨rfl, Below.refl _ _⟩
  · rw [if_neg h]
    have h' : x ≤ 0 := by omega
    go_enter Try.func16, Try.ntmps16
    go_wp2
    go_ret
    exact ⟨rfl, Below.refl _ _⟩
set_option maxHeartbeats 1000000 in
theorem rs2 (x : Int) (hx : InR x) (w : World) :
    Calls Try.prog 16 #[.int .i64 2, .int .i64 x] w fun e w' => e = .returned (.int .i64 (slopeI 2 x)) ∧ Below w.heap.size w w' := by
  rw [slope_2]
  by_cases h : 0 < x
  · rw [if_pos h]
    go_enter Try.func16, Try.ntmps16
    go_wp2
    go_ret
    exact ⟨rfl, Below.refl _ _⟩
  · rw [if_neg h]
    have h' : x ≤ 0 := by omega
    go_enter Try.func16, Try.ntmps16
    go_wp2
    go_ret
    exact ⟨rfl, Below.refl _ _⟩
set_option maxHeartbeats 1000000 in
theorem rs3 (x : Int) (hx : InR x) (w : World) :
    Calls Try.prog 16 #[.int .i64 3, .int .i64 x] w fun e w' => e = .returned (.int .i64 (slopeI 3 x)) ∧ Below w.heap.size w w' := by
  rw [slope_3]
  by_cases h1 : -4294967296 < x
  · by_cases h2 : x < 4294967296
    · rw [if_pos ⟨h1, h2⟩]
      go_enter Try.func16, Try.ntmps16
      go_wp2
      go_ret
      exact ⟨rfl, Below.refl _ _⟩
    · rw [if_neg fun h => h2 h.2]
      have h2' : 4294967296 ≤ x := by omega
      go_enter Try.func16, Try.ntmps16
      go_wp2
      go_ret
      exact ⟨rfl, Below.refl _ _⟩
  · rw [if_neg fun h => h1 h.1]
    have h1' : x ≤ -4294967296 := by omega
    go_enter Try.func16, Try.ntmps16
    go_wp2
    go_ret
    exact ⟨rfl, Below.refl _ _⟩
set_option maxHeartbeats 1000000 in
theorem rs5 (x : Int) (hx : InR x) (w : World) :
    Calls Try.prog 16 #[.int .i64 5, .int .i64 x] w fun e w' => e = .returned (.int .i64 (slopeI 5 x)) ∧ Below w.heap.size w w' := by
  rw [slope_5]
  by_cases h1 : -4294967296 < x
  · by_cases h2 : x < 4294967296
    · rw [if_pos ⟨h1, h2⟩]
      go_enter Try.func16, Try.ntmps16
      go_wp2
      go_ret
      exact ⟨rfl, Below.refl _ _⟩
    · rw [if_neg fun h => h2 h.2]
      have h2' : 4294967296 ≤ x := by omega
      go_enter Try.func16, Try.ntmps16
      go_wp2
      go_ret
      exact ⟨rfl, Below.refl _ _⟩
  · rw [if_neg fun h => h1 h.1]
    have h1' : x ≤ -4294967296 := by omega
    go_enter Try.func16, Try.ntmps16
    go_wp2
    go_ret
    exact ⟨rfl, Below.refl _ _⟩
set_option maxHeartbeats 1000000 in
theorem rs4 (x : Int) (hx : InR x) (w : World) :
    Calls Try.prog 16 #[.int .i64 4, .int .i64 x] w fun e w' => e = .returned (.int .i64 (slopeI 4 x)) ∧ Below w.heap.size w w' := by
  rw [slope_4]
  by_cases h : 0 < x
  · rw [if_pos h]
    go_enter Try.func16, Try.ntmps16
    go_wp2
    go_ret
    exact ⟨rfl, Below.refl _ _⟩
  · rw [if_neg h]
    have h' : x ≤ 0 := by omega
    by_cases h2 : x < 0
    · rw [if_pos h2]
      go_enter Try.func16, Try.ntmps16
      go_wp2
      go_ret
      exact ⟨rfl, Below.refl _ _⟩
    · rw [if_neg h2]
      have h2' : 0 ≤ x := by omega
      go_enter Try.func16, Try.ntmps16
      go_wp2
      go_ret
      exact ⟨rfl, Below.refl _ _⟩
theorem rslope_any (k x : Int) (hk : 1 ≤ k ∧ k ≤ 5) (hx : InR x) (y : Int) (ey : slopeI k x = y) (w : World) :
    Calls Try.prog 16 #[.int .i64 k, .int .i64 x] w fun e w' => e = .returned (.int .i64 y) ∧ Below w.heap.size w w' := by
  subst ey
  have : k = 1 ∨ k = 2 ∨ k = 3 ∨ k = 4 ∨ k = 5 := by omega
  rcases this with rfl | rfl | rfl | rfl | rfl
  · exact rs1 x hx w
  · exact rs2 x hx w
  · exact rs3 x hx w
  · exact rs4 x hx w
  · exact rs5 x hx w
end Go.Proofs.Ytlehlikgehbnfaa.Rf
