/- What the functions of package wide hand back: a number by another, rounded and held. What the functions of package wide hand back: a number by another, rounded and held. -/
import Derived.Test.YtknadgffflhlgaaWideC
import Derived.Test.YtknadgffflhlgaaDiv64
namespace Go.Proofs.Ytknadgffflhlgaa.Wd
open Go.RowKit Fx
set_option linter.unusedVariables false
set_option linter.unusedSimpArgs false
attribute [local go_sem] fld_hi fld_lo
def nrI (q r d : Int) : Int := if d < 2 * r ∨ (2 * r = d ∧ q % 2 = 1) then q + 1 else q
theorem wd_small (q : Int) (h : 0 ≤ q ∧ q ≤ 18446744073709551615) : wd q = .agg #[.int .i64 0, .int .u64 q] := (wd_eq (by omega) (by omega)).symm
set_option maxHeartbeats 2000000 in
set_option maxRecDepth 20000 in
theorem nearest_any (q r d : Int) (hq : 0 ≤ q ∧ q ≤ 18446744073709551615) (hr : 0 ≤ r ∧ r < d) (hd : d ≤ 9223372036854775808) (w : World) :
    Calls Try.prog 40 #[.int .u64 q, .int .u64 r, .int .u64 d] w fun e w' => e = .returned (wd (nrI q r d)) ∧ Below w.heap.size w w' := by
  have hq0 : InW q := by unfold InW; omega
  have hq1 : InW (q + 1) := by unfold InW; omega
  obtain ⟨uh, ul, eu, u1, u2, u3, u4, Hu⟩ := words hq1
  have eq := wd_small q hq
  have s4 : ∀ W : World, Calls Try.prog 11 #[.int .i64 1] W fun e w' => e = .returned (.agg #[.int .i64 0, .int .u64 1]) ∧ Below W.heap.size W w' := by
    intro W
    have := of_any 1 (by unfold InR; omega) W
    rw [wd_one] at this
    exact this
  have s5 : ∀ W : World, Calls Try.prog 19 #[.agg #[.int .i64 0, .int .u64 q], .agg #[.int .i64 0, .int .u64 1]] W fun e w' => e = .returned (.agg #[.int .i64 uh, .int .u64 ul]) ∧ Below W.heap.size W w' := by
    intro W
    have := add_any q 1 hq0 (by unfold InW; omega) W
    rw [wr_in hq1, eu, eq, wd_one] at this
    exact this
  have Rlow : Hid (¬ (d < 2 * r ∨ (2 * r = d ∧ q % 2 = 1)) → wd (nrI q r d) = .agg #[.int .i64 0, .int .u64 q]) := by
    intro h
    unfold nrI
    rw [if_neg h, eq]
  have Rup : Hid ((d < 2 * r ∨ (2 * r = d ∧ q % 2 = 1)) → wd (nrI q r d) = .agg #[.int .i64 uh, .int .u64 ul]) := by
    intro h
    unfold nrI
    rw [if_pos h, eu]
  clear eq eu Hu hq0 hq1
  by_cases c1 : d < 2 * r
  · have E : Hid (wd (nrI q r d) = .agg #[.int .i64 uh, .int .u64 ul]) := Rup.out (by omega)
    go_enter Try.func40, Try.ntmps40
    go_wp2_with fail
    go_region_with (first | (go_at_call 11; refine (s4 _).mono ?_; rintro e' w4 ⟨rfl, hb4⟩; have hB4 : Below w.heap.size w w4 := Below.trans (by go_grown) (hb4.mono (by first | omega | (simp; try omega))); have hz4 := hb4.size; (try simp at hz4); have ltR4 : w.heap.size < w4.heap.size := (by omega); have qR04 : w4.cell? ⟨w.heap.size, 0, none⟩ = some (.int .i64 0) := keep hb4 (by first | assumption | simp [go_sem, *]); have zR04 : w4.frozen? ⟨w.heap.size, 0, none⟩ = false := keepf hb4 (v := .int .i64 0) (by first | assumption | simp [go_sem, *]) (by first | assumption | simp [go_sem, *]); have qR14 : w4.cell? ⟨w.heap.size, 1, none⟩ = some (.int .u64 0) := keep hb4 (by first | assumption | simp [go_sem, *]); have zR14 : w4.frozen? ⟨w.heap.size, 1, none⟩ = false := keepf hb4 (v := .int .u64 0) (by first | assumption | simp [go_sem, *]) (by first | assumption | simp [go_sem, *]); have ltN4 : (w.heap.size + 1) < w4.heap.size := (by omega); have qN04 : w4.cell? ⟨(w.heap.size + 1), 0, none⟩ = some (.int .i64 0) := keep hb4 (by first | assumption | simp [go_sem, *]); have zN04 : w4.frozen? ⟨(w.heap.size + 1), 0, none⟩ = false := keepf hb4 (v := .int .i64 0) (by first | assumption | simp [go_sem, *]) (by first | assumption | simp [go_sem, *]); have qN14 : w4.cell? ⟨(w.heap.size + 1), 1, none⟩ = some (.int .u64 q) := keep hb4 (by first | assumption | simp [go_sem, *]); have zN14 : w4.frozen? ⟨(w.heap.size + 1), 1, none⟩ = false := keepf hb4 (v := .int .u64 q) (by first | assumption | simp [go_sem, *]) (by first | assumption | simp [go_sem, *]); clear hb4) | (go_at_call 19; refine (s5 _).mono ?_; rintro e' w5 ⟨rfl, hb5⟩; have hB5 : Below w.heap.size w w5 := Below.trans (by go_grown) (hb5.mono (by first | omega | (simp; try omega))); have hz5 := hb5.size; (try simp at hz5); have ltR5 : w.heap.size < w5.heap.size := (by omega); have qR05 : w5.cell? ⟨w.heap.size, 0, none⟩ = some (.int .i64 0) := keep hb5 (by first | assumption | simp [go_sem, *]); have zR05 : w5.frozen? ⟨w.heap.size, 0, none⟩ = false := keepf hb5 (v := .int .i64 0) (by first | assumption | simp [go_sem, *]) (by first | assumption | simp [go_sem, *]); have qR15 : w5.cell? ⟨w.heap.size, 1, none⟩ = some (.int .u64 0) := keep hb5 (by first | assumption | simp [go_sem, *]); have zR15 : w5.frozen? ⟨w.heap.size, 1, none⟩ = false := keepf hb5 (v := .int .u64 0) (by first | assumption | simp [go_sem, *]) (by first | assumption | simp [go_sem, *]); clear hb5))
    all_goals
      go_wp2
      obtain ⟨f0, f1⟩ := two w5 w.heap.size (.int .i64 uh) (.int .u64 ul) qR05 qR15
      exact bodyPost_ret (v := .agg #[.int .i64 uh, .int .u64 ul]) (by simp [results, Try.results40, go_sem, f0, f1]) rfl ⟨by rw [E.out], by go_grown⟩
  · by_cases c2 : 2 * r = d
    · by_cases c3 : q % 2 = 1
      · have E : Hid (wd (nrI q r d) = .agg #[.int .i64 uh, .int .u64 ul]) := Rup.out (by omega)
        go_enter Try.func40, Try.ntmps40
        go_wp2_with fail
        go_region_with (first | (go_at_call 11; refine (s4 _).mono ?_; rintro e' w4 ⟨rfl, hb4⟩; have hB4 : Below w.heap.size w w4 := Below.trans (by go_grown) (hb4.mono (by first | omega | (simp; try omega))); have hz4 := hb4.size; (try simp at hz4); have ltR4 : w.heap.size < w4.heap.size := (by omega); have qR04 : w4.cell? ⟨w.heap.size, 0, none⟩ = some (.int .i64 0) := keep hb4 (by first | assumption | simp [go_sem, *]); have zR04 : w4.frozen? ⟨w.heap.size, 0, none⟩ = false := keepf hb4 (v := .int .i64 0) (by first | assumption | simp [go_sem, *]) (by first | assumption | simp [go_sem, *]); have qR14 : w4.cell? ⟨w.heap.size, 1, none⟩ = some (.int .u64 0) := keep hb4 (by first | assumption | simp [go_sem, *]); have zR14 : w4.frozen? ⟨w.heap.size, 1, none⟩ = false := keepf hb4 (v := .int .u64 0) (by first | assumption | simp [go_sem, *]) (by first | assumption | simp [go_sem, *]); have ltN4 : (w.heap.size + 1) < w4.heap.size := (by omega); have qN04 : w4.cell? ⟨(w.heap.size + 1), 0, none⟩ = some (.int .i64 0) := keep hb4 (by first | assumption | simp [go_sem, *]); have zN04 : w4.frozen? ⟨(w.heap.size + 1), 0, none⟩ = false := keepf hb4 (v := .int .i64 0) (by first | assumption | simp [go_sem, *]) (by first | assumption | simp [go_sem, *]); have qN14 : w4.cell? ⟨(w.heap.size + 1), 1, none⟩ = some (.int .u64 q) := keep hb4 (by first | assumption | simp [go_sem, *]); have zN14 : w4.frozen? ⟨(w.heap.size + 1), 1, none⟩ = false := keepf hb4 (v := .int .u64 q) (by first | assumption | simp [go_sem, *]) (by first | assumption | simp [go_sem, *]); clear hb4) | (go_at_call 19; refine (s5 _).mono ?_; rintro e' w5 ⟨rfl, hb5⟩; have hB5 : Below w.heap.size w w5 := Below.trans (by go_grown) (hb5.mono (by first | omega | (simp; try omega))); have hz5 := hb5.size; (try simp at hz5); have ltR5 : w.heap.size < w5.heap.size := (by omega); have qR05 : w5.cell? ⟨w.heap.size, 0, none⟩ = some (.int .i64 0) := keep hb5 (by first | assumption | simp [go_sem, *]); have zR05 : w5.frozen? ⟨w.heap.size, 0, none⟩ = false := keepf hb5 (v := .int .i64 0) (by first | assumption | simp [go_sem, *]) (by first | assumption | simp [go_sem, *]); have qR15 : w5.cell? ⟨w.heap.size, 1, none⟩ = some (.int .u64 0) := keep hb5 (by first | assumption | simp [go_sem, *]); have zR15 : w5.frozen? ⟨w.heap.size, 1, none⟩ = false := keepf hb5 (v := .int .u64 0) (by first | assumption | simp [go_sem, *]) (by first | assumption | simp [go_sem, *]); clear hb5))
        all_goals
          go_wp2
          obtain ⟨f0, f1⟩ := two w5 w.heap.size (.int .i64 uh) (.int .u64 ul) qR05 qR15
          exact bodyPost_ret (v := .agg #[.int .i64 uh, .int .u64 ul]) (by simp [results, Try.results40, go_sem, f0, f1]) rfl ⟨by rw [E.out], by go_grown⟩
      · have c3' : (q % 2 == 1) = false := by simpa using c3
        have E : Hid (wd (nrI q r d) = .agg #[.int .i64 0, .int .u64 q]) := Rlow.out (by omega)
        go_enter Try.func40, Try.ntmps40
        go_wp2
        exact bodyPost_ret (v := .agg #[.int .i64 0, .int .u64 q]) (by simp [results, Try.results40, go_sem]) rfl ⟨by rw [E.out], by go_grown⟩
    · have c2' : (2 * r == d) = false := by simpa using c2
      have E : Hid (wd (nrI q r d) = .agg #[.int .i64 0, .int .u64 q]) := Rlow.out (by omega)
      go_enter Try.func40, Try.ntmps40
      go_wp2
      exact bodyPost_ret (v := .agg #[.int .i64 0, .int .u64 q]) (by simp [results, Try.results40, go_sem]) rfl ⟨by rw [E.out], by go_grown⟩
end Go.Proofs.Ytknadgffflhlgaa.Wd
namespace Go.Proofs.Ytknadgffflhlgaa.Wd
open Go.RowKit Fx
set_option linter.unusedVariables false
set_option linter.unusedSimpArgs false
attribute [local go_sem] fld_hi fld_lo
/-- A number by another, rounded and held; by 0 its bound. -/
def ovI (a n : Int) : Int := if n = 0 then overI a else hold (sg (Fx.differ a n) (rq a.natAbs n.natAbs))
theorem overI_hold (a : Int) : overI (hold a) = overI a := by
  unfold overI hold
  split <;> split <;> (try split) <;> (try split) <;> (try split) <;> (try split) <;> omega
theorem nrI_rq (m d : Nat) (hd : 0 < d) : nrI ((m : Int) / d) ((m : Int) % d) d = ((rq m d : Nat) : Int) := by
  rw [← rqI_nat]; rfl
theorem rq_le (m d : Nat) (hd : 0 < d) (h : m / 18446744073709551616 < d) : rq m d ≤ 18446744073709551616 := by
  have : m / d < 18446744073709551616 := by
    rw [Nat.div_lt_iff_lt_mul hd]
    have := Nat.div_lt_iff_lt_mul (x := m) (y := d) (show 0 < 18446744073709551616 by decide)
    omega
  unfold rq
  split <;> omega
theorem rq_ge (m d : Nat) (hd : 0 < d) (h : d ≤ m / 18446744073709551616) : 18446744073709551616 ≤ rq m d := by
  have : 18446744073709551616 ≤ m / d := by
    rw [Nat.le_div_iff_mul_le hd]
    omega
  unfold rq
  split <;> omega
theorem ov_far (a n : Int) (hn : n ≠ 0) (h : n.natAbs ≤ a.natAbs / 18446744073709551616) : ovI a n = lim (Fx.differ a n) := by
  have := rq_ge a.natAbs n.natAbs (by omega) h
  unfold ovI
  rw [if_neg hn]
  cases Fx.differ a n
  · exact hold_hi (by unfold sg; simp; omega)
  · exact hold_lo (by unfold sg; simp; omega)
theorem below_drewN {B : Nat} {a w : World} (h : Below B a w) (n : Nat) : Below B a (w.drewN n) := ⟨h.os, h.tape, h.output, h.size, h.block⟩
set_option maxHeartbeats 1000000 in
theorem over_nought (a : Int) (ha : InW a) (w : World) :
    Calls Try.prog 22 #[wd a, .int .i64 0] w fun e w' => e = .returned (.int .i64 (ovI a 0)) ∧ Below w.heap.size w w' := by
  have hr : InR (hold a) := hold_rng a
  have E : Hid (divI (hold a) 0 = ovI a 0) := by
    show (if (0 : Int) = 0 then overI (hold a) else _) = (if (0 : Int) = 0 then overI a else _)
    rw [if_pos rfl, if_pos rfl, overI_hold]
  obtain ⟨ah, al, ea, a1, a2, a3, a4, Ha⟩ := words ha
  obtain ⟨y, ey⟩ : ∃ y, hold a = y := ⟨_, rfl⟩
  have s1 : ∀ W : World, Calls Try.prog 35 #[.agg #[.int .i64 ah, .int .u64 al]] W fun e w' => e = .returned (.int .i64 y) ∧ Below W.heap.size W w' := by
    intro W
    have := fix_any a ha W
    rw [ea, ey] at this
    exact this
  have s2 : ∀ W : World, Calls Try.prog 34 #[.int .i64 y, .int .i64 0] W fun e w' => e = .returned (.int .i64 (ovI a 0)) ∧ ∃ n, w' = W.drewN n := by
    intro W
    have := div_any y 0 (ey ▸ hr) (by unfold InR; omega) W
    rw [← ey, E.out, ey] at this
    exact this
  rw [ea]
  clear ea E ey hr
  go_enter Try.func22, Try.ntmps22
  go_wp2_with fail
  refine (s1 _).mono ?_
  rintro e' w1 ⟨rfl, hb1⟩
  have hB1 : Below w.heap.size w w1 := Below.trans (by go_grown) (hb1.mono (by first | omega | (simp; try omega)))
  have hz1 := hb1.size
  (try simp at hz1)
  go_wp2_with fail
  refine (s2 _).mono ?_
  rintro e' w2 ⟨rfl, n, rfl⟩
  go_wp2
  go_ret
  exact ⟨rfl, below_drewN hB1 n⟩
set_option maxHeartbeats 2000000 in
set_option maxRecDepth 20000 in
theorem over_main (a n : Int) (ha : InW a) (hn : InR n) (h0 : n ≠ 0) (w : World) :
    Calls Try.prog 22 #[wd a, .int .i64 n] w fun e w' => e = .returned (.int .i64 (ovI a n)) ∧ Below w.heap.size w w' := by
  have hm0 : InW (if decide (a < 0) then wr (-a) else a) := by split; exact wr_rng _; exact ha
  obtain ⟨ah, al, ea, a1, a2, a3, a4, Ha⟩ := words ha
  obtain ⟨oh, ol, eo, o1, o2, o3, o4, Ho⟩ := words hm0
  obtain ⟨D, eD⟩ : ∃ D : Int, (n.natAbs : Int) = D := ⟨_, rfl⟩
  obtain ⟨hi, ei⟩ : ∃ hi : Int, IntKind.u64.wrap oh = hi := ⟨_, rfl⟩
  have hD : 1 ≤ D ∧ D ≤ 9223372036854775808 := by unfold InR at hn; omega
  have hm : (a.natAbs : Int) = hi * 18446744073709551616 + ol := by
    have h1 := Ho.out
    rw [IntKind.wrap_u64] at ei
    unfold InW at ha
    by_cases c : a < 0
    · simp only [c, decide_true, if_true] at h1
      unfold wr at h1
      omega
    · simp only [c, decide_false, Bool.false_eq_true, if_false] at h1
      omega
  have hi1 : 0 ≤ hi ∧ hi ≤ 9223372036854775808 := by rw [IntKind.wrap_u64] at ei; unfold InW at ha; omega
  have sa : decide (ah < 0) = decide (a < 0) := by
    have h1 := Ha.out
    rw [decide_eq_decide]; omega
  obtain ⟨b, eb⟩ : ∃ b, Fx.differ a n = b := ⟨_, rfl⟩
  have hbl : (!(decide (ah < 0) == decide (n < 0))) = b := by rw [sa]; exact eb
  have s1 : ∀ W : World, Calls Try.prog 36 #[.bool (decide (ah < 0)), .agg #[.int .i64 ah, .int .u64 al]] W fun e w' => e = .returned (.agg #[.int .i64 oh, .int .u64 ol]) ∧ Below W.heap.size W w' := by
    intro W
    have := signed_any (decide (a < 0)) a ha W
    rw [eo, ea, ← sa] at this
    exact this
  have s2 : ∀ W : World, Calls Try.prog 37 #[.int .i64 n] W fun e w' => e = .returned (.int .u64 D) ∧ w' = W := fun W => wsize_any n D hn eD W
  have hn0 : (n == 0) = false := by simpa using h0
  by_cases hc : D ≤ hi
  · have E : Hid (ovI a n = lim b) := by rw [← eb]; exact ov_far a n h0 (by omega)
    rw [ea]
    clear ea eo eb eD hm Ho Ha hm0 sa
    unfold InR at hn
    go_enter Try.func22, Try.ntmps22
    go_wp2_with fail
    refine (s1 _).mono ?_
    rintro e' w1 ⟨rfl, hb1⟩
    have hB1 : Below w.heap.size w w1 := Below.trans (by go_grown) (hb1.mono (by first | omega | (simp; try omega)))
    have hz1 := hb1.size
    (try simp at hz1)
    have ltA1 : w.heap.size < w1.heap.size := (by omega)
    have qA01 : w1.cell? ⟨w.heap.size, 0, none⟩ = some (.int .i64 ah) := keep hb1 (by first | assumption | simp [go_sem, *])
    have zA01 : w1.frozen? ⟨w.heap.size, 0, none⟩ = false := keepf hb1 (v := .int .i64 ah) (by first | assumption | simp [go_sem, *]) (by first | assumption | simp [go_sem, *])
    have qA11 : w1.cell? ⟨w.heap.size, 1, none⟩ = some (.int .u64 al) := keep hb1 (by first | assumption | simp [go_sem, *])
    have zA11 : w1.frozen? ⟨w.heap.size, 1, none⟩ = false := keepf hb1 (v := .int .u64 al) (by first | assumption | simp [go_sem, *]) (by first | assumption | simp [go_sem, *])
    clear hb1
    go_wp2_with fail
    refine (s2 _).mono ?_
    rintro e' w2 ⟨rfl, rfl⟩
    go_wp2_with fail
    refine (bound_any b _).mono ?_
    rintro e' w2 ⟨rfl, rfl⟩
    go_wp2
    go_ret
    exact ⟨ret_int E.out.symm, by go_grown⟩
  · have hx := rq_le a.natAbs n.natAbs (by omega) (by omega)
    have hq0 : 0 ≤ (hi * 18446744073709551616 + ol) / D ∧ (hi * 18446744073709551616 + ol) / D ≤ 18446744073709551615 := by
      refine ⟨Int.ediv_nonneg (by omega) (by omega), ?_⟩
      have : (hi * 18446744073709551616 + ol) / D < 18446744073709551616 := Int.ediv_lt_of_lt_mul (by omega) (by omega)
      omega
    have hr0 : 0 ≤ (hi * 18446744073709551616 + ol) % D ∧ (hi * 18446744073709551616 + ol) % D < D := ⟨Int.emod_nonneg _ (by omega), Int.emod_lt_of_pos _ (by omega)⟩
    have hnr : nrI ((hi * 18446744073709551616 + ol) / D) ((hi * 18446744073709551616 + ol) % D) D = ((rq a.natAbs n.natAbs : Nat) : Int) := by
      rw [← hm, ← eD]
      exact nrI_rq a.natAbs n.natAbs (by omega)
    obtain ⟨q, eq⟩ : ∃ q, (hi * 18446744073709551616 + ol) / D = q := ⟨_, rfl⟩
    obtain ⟨r, er⟩ : ∃ r, (hi * 18446744073709551616 + ol) % D = r := ⟨_, rfl⟩
    obtain ⟨x, ex⟩ : ∃ x : Int, ((rq a.natAbs n.natAbs : Nat) : Int) = x := ⟨_, rfl⟩
    rw [eq] at hq0 hnr
    rw [er] at hr0 hnr
    have hx0 : 0 ≤ x ∧ x ≤ 18446744073709551616 := by omega
    have hxw : InW x := by unfold InW; omega
    have hyw : InW (if b then wr (-x) else x) := by split; exact wr_rng _; exact hxw
    have hy : hold (if b then wr (-x) else x) = ovI a n := by
      unfold ovI
      rw [if_neg h0, eb]
      congr 1
      unfold sg
      cases b
      · simp; omega
      · simp; rw [wr_in (by unfold InW; omega)]; omega
    obtain ⟨xh, xl, exw, x1, x2, x3, x4, Hx⟩ := words hxw
    obtain ⟨gh, gl, egw, g1, g2, g3, g4, Hg⟩ := words hyw
    obtain ⟨y, ey⟩ : ∃ y, ovI a n = y := ⟨_, rfl⟩
    have s3 : ∀ W : World, Calls Try.prog 39 #[.int .u64 hi, .int .u64 ol, .int .u64 D] W fun e w' => e = .returned (.tuple #[.int .u64 q, .int .u64 r]) ∧ ∃ n, w' = W.drewN n := by
      intro W
      have := div64_any hi ol D (by omega) (by omega) (by omega) (by omega) W
      rw [eq, er] at this
      exact this
    have s4 : ∀ W : World, Calls Try.prog 40 #[.int .u64 q, .int .u64 r, .int .u64 D] W fun e w' => e = .returned (.agg #[.int .i64 xh, .int .u64 xl]) ∧ Below W.heap.size W w' := by
      intro W
      have := nearest_any q r D hq0 hr0 (by omega) W
      rw [hnr, ex, exw] at this
      exact this
    have s5 : ∀ W : World, Calls Try.prog 36 #[.bool b, .agg #[.int .i64 xh, .int .u64 xl]] W fun e w' => e = .returned (.agg #[.int .i64 gh, .int .u64 gl]) ∧ Below W.heap.size W w' := by
      intro W
      have := signed_any b x hxw W
      rw [egw, exw] at this
      exact this
    have s6 : ∀ W : World, Calls Try.prog 35 #[.agg #[.int .i64 gh, .int .u64 gl]] W fun e w' => e = .returned (.int .i64 y) ∧ Below W.heap.size W w' := by
      intro W
      have := fix_any _ hyw W
      rw [hy, ey, egw] at this
      exact this
    rw [ea, ey]
    clear ea eo eb eD hm Ho Ha hm0 ey hy hyw hxw hx hnr eq er ex exw egw Hx Hg sa
    unfold InR at hn
    go_enter Try.func22, Try.ntmps22
    go_wp2_with fail
    refine (s1 _).mono ?_
    rintro e' w1 ⟨rfl, hb1⟩
    have hB1 : Below w.heap.size w w1 := Below.trans (by go_grown) (hb1.mono (by first | omega | (simp; try omega)))
    have hz1 := hb1.size
    (try simp at hz1)
    have ltA1 : w.heap.size < w1.heap.size := (by omega)
    have qA01 : w1.cell? ⟨w.heap.size, 0, none⟩ = some (.int .i64 ah) := keep hb1 (by first | assumption | simp [go_sem, *])
    have zA01 : w1.frozen? ⟨w.heap.size, 0, none⟩ = false := keepf hb1 (v := .int .i64 ah) (by first | assumption | simp [go_sem, *]) (by first | assumption | simp [go_sem, *])
    have qA11 : w1.cell? ⟨w.heap.size, 1, none⟩ = some (.int .u64 al) := keep hb1 (by first | assumption | simp [go_sem, *])
    have zA11 : w1.frozen? ⟨w.heap.size, 1, none⟩ = false := keepf hb1 (v := .int .u64 al) (by first | assumption | simp [go_sem, *]) (by first | assumption | simp [go_sem, *])
    clear hb1
    go_wp2_with fail
    refine (s2 _).mono ?_
    rintro e' w2 ⟨rfl, rfl⟩
    go_wp2_with fail
    refine (s3 _).mono ?_
    rintro e' w2 ⟨rfl, k, rfl⟩
    go_wp2_with fail
    refine (s4 _).mono ?_
    rintro e' w3 ⟨rfl, hb3⟩
    have hB3 : Below w.heap.size w w3 := Below.trans (below_drewN (by go_grown) _) (hb3.mono (by simp; omega))
    clear hb3
    go_wp2_with fail
    refine (s5 _).mono ?_
    rintro e' w4 ⟨rfl, hb4⟩
    go_wp2_with fail
    refine (s6 _).mono ?_
    rintro e' w5 ⟨rfl, hb5⟩
    go_wp2
    go_ret
    have c4 := hB3.trans (hb4.mono hB3.size)
    exact ⟨rfl, c4.trans (hb5.mono c4.size)⟩
theorem over_any (a n : Int) (ha : InW a) (hn : InR n) (w : World) :
    Calls Try.prog 22 #[wd a, .int .i64 n] w fun e w' => e = .returned (.int .i64 (ovI a n)) ∧ Below w.heap.size w w' := by
  by_cases h : n = 0
  · subst h
    exact over_nought a ha w
  · exact over_main a n ha hn h w
end Go.Proofs.Ytknadgffflhlgaa.Wd
