/- What the functions of package wide hand back: a number by another, rounded and held. -/
import Derived.Test.YtdbndpcbejofkaaDoorWideD
namespace Go.Proofs.YtdbndpcbejofkaaDoor.Wd
open Go.RowKit Fx
set_option linter.unusedVariables false
set_option linter.unusedSimpArgs false
attribute [local go_sem] fld_hi fld_lo
def nrI (q r d : Int) : Int := if d < 2 * r ∨ (2 * r = d ∧ q % 2 = 1) then q + 1 else q
theorem wd_small (q : Int) (h : 0 ≤ q ∧ q ≤ 18446744073709551615) : wd q = .agg #[.int .i64 0, .int .u64 q] := (wd_eq (by omega) (by omega)).symm
set_option maxHeartbeats 2000000 in
set_option maxRecDepth 20000 in
theorem nearest_any (q r d : Int) (hq : 0 ≤ q ∧ q ≤ 18446744073709551615) (hr : 0 ≤ r ∧ r < d) (hd : d ≤ 9223372036854775808) (w : World) :
    Calls Tryd.prog 40 #[.int .u64 q, .int .u64 r, .int .u64 d] w fun e w' => e = .returned (wd (nrI q r d)) ∧ Below w.heap.size w w' := by
  have hq0 : InW q := by unfold InW; omega
  have hq1 : InW (q + 1) := by unfold InW; omega
  obtain ⟨uh, ul, eu, u1, u2, u3, u4, Hu⟩ := words hq1
  have eq := wd_small q hq
  have s4 : ∀ W : World, Calls Tryd.prog 14 #[.int .i64 1] W fun e w' => e = .returned (.agg #[.int .i64 0, .int .u64 1]) ∧ Below W.heap.size W w' := by
    intro W
    have := of_any 1 (by unfold InR; omega) W
    rw [wd_one] at this
    exact this
  have s5 : ∀ W : World, Calls Tryd.prog 17 #[.agg #[.int .i64 0, .int .u64 q], .agg #[.int .i64 0, .int .u64 1]] W fun e w' => e = .returned (.agg #[.int .i64 uh, .int .u64 ul]) ∧ Below W.heap.size W w' := by
    intro W
    have := add_any q 1 hq0 (by unfold InW; omega) W
    rw [wr_in hq1, eu, eq, wd_one] at this
    exact this
  have Rlow : Hid (¬ (d < 2 * r ∨ (2 * r = d ∧ q % 2 = 1)) → wd (nrI q r d) = .agg #[.int .i64 0, .int .u64 q]) := by
    intro h
    unfold nrI
    rw [if_neg h, eq]
  have Rup : Hid ((d < 2 * r ∨ (2 * r = d ∧ q % 2 = 1)) → wd (nrI q r d) = .agg #[.int .i64 uh, .int .u64 ul]) := by
    intro h
    unfold nrI
    rw [if_pos h, eu]
  clear eq eu Hu hq0 hq1
  by_cases c1 : d < 2 * r
  · have E : Hid (wd (nrI q r d) = .agg #[.int .i64 uh, .int .u64 ul]) := Rup.out (by omega)
    go_enter Tryd.func40, Tryd.ntmps40
    go_wp2_with fail
    go_region_with (first | (go_at_call 14; refine (s4 _).mono ?_; rintro e' w4 ⟨rfl, hb4⟩; have hB4 : Below w.heap.size w w4 := Below.trans (by go_grown) (hb4.mono (by first | omega | (simp; try omega))); have hz4 := hb4.size; (try simp at hz4); have ltR4 : w.heap.size < w4.heap.size := (by omega); have qR04 : w4.cell? ⟨w.heap.size, 0, none⟩ = some (.int .i64 0) := keep hb4 (by first | assumption | simp [go_sem, *]); have zR04 : w4.frozen? ⟨w.heap.size, 0, none⟩ = false := keepf hb4 (v := .int .i64 0) (by first | assumption | simp [go_sem, *]) (by first | assumption | simp [go_sem, *]); have qR14 : w4.cell? ⟨w.heap.size, 1, none⟩ = some (.int .u64 0) := keep hb4 (by first | assumption | simp [go_sem, *]); have zR14 : w4.frozen? ⟨w.heap.size, 1, none⟩ = false := keepf hb4 (v := .int .u64 0) (by first | assumption | simp [go_sem, *]) (by first | assumption | simp [go_sem, *]); have ltN4 : (w.heap.size + 1) < w4.heap.size := (by omega); have qN04 : w4.cell? ⟨(w.heap.size + 1), 0, none⟩ = some (.int .i64 0) := keep hb4 (by first | assumption | simp [go_sem, *]); have zN04 : w4.frozen? ⟨(w.heap.size + 1), 0, none⟩ = false := keepf hb4 (v := .int .i64 0) (by first | assumption | simp [go_sem, *]) (by first | assumption | simp [go_sem, *]); have qN14 : w4.cell? ⟨(w.heap.size + 1), 1, none⟩ = some (.int .u64 q) := keep hb4 (by first | assumption | simp [go_sem, *]); have zN14 : w4.frozen? ⟨(w.heap.size + 1), 1, none⟩ = false := keepf hb4 (v := .int .u64 q) (by first | assumption | simp [go_sem, *]) (by first | assumption | simp [go_sem, *]); clear hb4) | (go_at_call 17; refine (s5 _).mono ?_; rintro e' w5 ⟨rfl, hb5⟩; have hB5 : Below w.heap.size w w5 := Below.trans (by go_grown) (hb5.mono (by first | omega | (simp; try omega))); have hz5 := hb5.size; (try simp at hz5); have ltR5 : w.heap.size < w5.heap.size := (by omega); have qR05 : w5.cell? ⟨w.heap.size, 0, none⟩ = some (.int .i64 0) := keep hb5 (by first | assumption | simp [go_sem, *]); have zR05 : w5.frozen? ⟨w.heap.size, 0, none⟩ = false := keepf hb5 (v := .int .i64 0) (by first | assumption | simp [go_sem, *]) (by first | assumption | simp [go_sem, *]); have qR15 : w5.cell? ⟨w.heap.size, 1, none⟩ = some (.int .u64 0) := keep hb5 (by first | assumption | simp [go_sem, *]); have zR15 : w5.frozen? ⟨w.heap.size, 1, none⟩ = false := keepf hb5 (v := .int .u64 0) (by first | assumption | simp [go_sem, *]) (by first | assumption | simp [go_sem, *]); clear hb5))
    all_goals
      go_wp2
      obtain ⟨f0, f1⟩ := two w5 w.heap.size (.int .i64 uh) (.int .u64 ul) qR05 qR15
      exact bodyPost_ret (v := .agg #[.int .i64 uh, .int .u64 ul]) (by simp [results, Tryd.results40, go_sem, f0, f1]) rfl ⟨by rw [E.out], by go_grown⟩
  · by_cases c2 : 2 * r = d
    · by_cases c3 : q % 2 = 1
      · have E : Hid (wd (nrI q r d) = .agg #[.int .i64 uh, .int .u64 ul]) := Rup.out (by omega)
        go_enter Tryd.func40, Tryd.ntmps40
        go_wp2_with fail
        go_region_with (first | (go_at_call 14; refine (s4 _).mono ?_; rintro e' w4 ⟨rfl, hb4⟩; have hB4 : Below w.heap.size w w4 := Below.trans (by go_grown) (hb4.mono (by first | omega | (simp; try omega))); have hz4 := hb4.size; (try simp at hz4); have ltR4 : w.heap.size < w4.heap.size := (by omega); have qR04 : w4.cell? ⟨w.heap.size, 0, none⟩ = some (.int .i64 0) := keep hb4 (by first | assumption | simp [go_sem, *]); have zR04 : w4.frozen? ⟨w.heap.size, 0, none⟩ = false := keepf hb4 (v := .int .i64 0) (by first | assumption | simp [go_sem, *]) (by first | assumption | simp [go_sem, *]); have qR14 : w4.cell? ⟨w.heap.size, 1, none⟩ = some (.int .u64 0) := keep hb4 (by first | assumption | simp [go_sem, *]); have zR14 : w4.frozen? ⟨w.heap.size, 1, none⟩ = false := keepf hb4 (v := .int .u64 0) (by first | assumption | simp [go_sem, *]) (by first | assumption | simp [go_sem, *]); have ltN4 : (w.heap.size + 1) < w4.heap.size := (by omega); have qN04 : w4.cell? ⟨(w.heap.size + 1), 0, none⟩ = some (.int .i64 0) := keep hb4 (by first | assumption | simp [go_sem, *]); have zN04 : w4.frozen? ⟨(w.heap.size + 1), 0, none⟩ = false := keepf hb4 (v := .int .i64 0) (by first | assumption | simp [go_sem, *]) (by first | assumption | simp [go_sem, *]); have qN14 : w4.cell? ⟨(w.heap.size + 1), 1, none⟩ = some (.int .u64 q) := keep hb4 (by first | assumption | simp [go_sem, *]); have zN14 : w4.frozen? ⟨(w.heap.size + 1), 1, none⟩ = false := keepf hb4 (v := .int .u64 q) (by first | assumption | simp [go_sem, *]) (by first | assumption | simp [go_sem, *]); clear hb4) | (go_at_call 17; refine (s5 _).mono ?_; rintro e' w5 ⟨rfl, hb5⟩; have hB5 : Below w.heap.size w w5 := Below.trans (by go_grown) (hb5.mono (by first | omega | (simp; try omega))); have hz5 := hb5.size; (try simp at hz5); have ltR5 : w.heap.size < w5.heap.size := (by omega); have qR05 : w5.cell? ⟨w.heap.size, 0, none⟩ = some (.int .i64 0) := keep hb5 (by first | assumption | simp [go_sem, *]); have zR05 : w5.frozen? ⟨w.heap.size, 0, none⟩ = false := keepf hb5 (v := .int .i64 0) (by first | assumption | simp [go_sem, *]) (by first | assumption | simp [go_sem, *]); have qR15 : w5.cell? ⟨w.heap.size, 1, none⟩ = some (.int .u64 0) := keep hb5 (by first | assumption | simp [go_sem, *]); have zR15 : w5.frozen? ⟨w.heap.size, 1, none⟩ = false := keepf hb5 (v := .int .u64 0) (by first | assumption | simp [go_sem, *]) (by first | assumption | simp [go_sem, *]); clear hb5))
        all_goals
          go_wp2
          obtain ⟨f0, f1⟩ := two w5 w.heap.size (.int .i64 uh) (.int .u64 ul) qR05 qR15
          exact bodyPost_ret (v := .agg #[.int .i64 uh, .int .u64 ul]) (by simp [results, Tryd.results40, go_sem, f0, f1]) rfl ⟨by rw [E.out], by go_grown⟩
      · have c3' : (q % 2 == 1) = false := by simpa using c3
        have E : Hid (wd (nrI q r d) = .agg #[.int .i64 0, .int .u64 q]) := Rlow.out (by omega)
        go_enter Tryd.func40, Tryd.ntmps40
        go_wp2
        exact bodyPost_ret (v := .agg #[.int .i64 0, .int .u64 q]) (by simp [results, Tryd.results40, go_sem]) rfl ⟨by rw [E.out], by go_grown⟩
    · have c2' : (2 * r == d) = false := by simpa using c2
      have E : Hid (wd (nrI q r d) = .agg #[.int .i64 0, .int .u64 q]) := Rlow.out (by omega)
      go_enter Tryd.func40, Tryd.ntmps40
      go_wp2
      exact bodyPost_ret (v := .agg #[.int .i64 0, .int .u64 q]) (by simp [results, Tryd.results40, go_sem]) rfl ⟨by rw [E.out], by go_grown⟩
end Go.Proofs.YtdbndpcbejofkaaDoor.Wd
