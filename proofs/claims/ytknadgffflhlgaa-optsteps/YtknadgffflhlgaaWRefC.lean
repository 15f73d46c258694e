/- What the reference's quotients of 128 bits are. -/
import Derived.Test.YtknadgffflhlgaaWRefB
namespace Go.Proofs.Ytknadgffflhlgaa.Wd
open Go.RowKit Fx Rf
set_option linter.unusedVariables false
set_option linter.unusedSimpArgs false
attribute [local go_sem] fld_hi fld_lo setCell_drewN alloc_drewN
set_option maxHeartbeats 1000000 in
theorem zero_low (s : Bool) (a0 a1 a2 a3 : Int) (p0 : U a0) (p1 : U a1) (p2 : U a2) (p3 : U a3) (x : Int) (hx : PS 4 a0 a1 a2 a3 = x) (w : World) :
    Calls Try.prog 48 #[.agg #[.bool s, .int .u64 a0, .int .u64 a1, .int .u64 a2, .int .u64 a3]] w fun e w' => e = .returned (.bool (decide (x = 0))) ∧ Below w.heap.size w w' := by
  obtain ⟨u1, v1⟩ := or_zero a0 a1 p0 p1
  obtain ⟨c1, e1⟩ : ∃ c, bits .or .u64 a0 a1 = c := ⟨_, rfl⟩
  rw [e1] at u1 v1
  obtain ⟨u2, v2⟩ := or_zero c1 a2 u1 p2
  obtain ⟨c2, e2⟩ : ∃ c, bits .or .u64 c1 a2 = c := ⟨_, rfl⟩
  rw [e2] at u2 v2
  obtain ⟨u3, v3⟩ := or_zero c2 a3 u2 p3
  obtain ⟨c3, e3⟩ : ∃ c, bits .or .u64 c2 a3 = c := ⟨_, rfl⟩
  rw [e3] at u3 v3
  have E : (c3 == 0) = decide (x = 0) := by
    rw [PS4] at hx
    unfold U at p0 p1 p2 p3
    rw [Bool.eq_iff_iff]
    simp only [beq_iff_eq, decide_eq_true_eq]
    omega
  obtain ⟨b, eb⟩ : ∃ b, decide (x = 0) = b := ⟨_, rfl⟩
  rw [eb] at E ⊢
  unfold U at *
  clear v1 v2 v3 hx eb
  go_enter Try.func48, Try.ntmps48
  go_wp2
  go_ret
  exact ⟨rfl, by go_grown⟩
theorem up5 {W W1 : World} {b : Nat} {x0 x1 x2 x3 x4 : Value} (hb : Below W.heap.size W W1) (h : W.cell? ⟨b, 0, none⟩ = some x0 ∧ W.cell? ⟨b, 1, none⟩ = some x1 ∧ W.cell? ⟨b, 2, none⟩ = some x2 ∧ W.cell? ⟨b, 3, none⟩ = some x3 ∧ W.cell? ⟨b, 4, none⟩ = some x4) :
    W1.cell? ⟨b, 0, none⟩ = some x0 ∧ W1.cell? ⟨b, 1, none⟩ = some x1 ∧ W1.cell? ⟨b, 2, none⟩ = some x2 ∧ W1.cell? ⟨b, 3, none⟩ = some x3 ∧ W1.cell? ⟨b, 4, none⟩ = some x4 :=
  ⟨keep hb h.1, keep hb h.2.1, keep hb h.2.2.1, keep hb h.2.2.2.1, keep hb h.2.2.2.2⟩
theorem num_at (a : Int) (ha : InW a) (ah al : Int) (ea : wd a = .agg #[.int .i64 ah, .int .u64 al]) (W : World) : Calls Try.prog 46 #[.agg #[.int .i64 ah, .int .u64 al]] W fun e w' => ∃ m0 m1 m2 m3 : Int, e = .returned (.agg #[.bool (decide (a < 0)), .int .u64 m0, .int .u64 m1, .int .u64 m2, .int .u64 m3]) ∧ Hid (U m0 ∧ U m1 ∧ U m2 ∧ U m3 ∧ PS 4 m0 m1 m2 m3 = (a.natAbs : Int)) ∧ Below W.heap.size W w' := by
  have := num_ref a ha W
  rw [ea] at this
  refine this.mono ?_
  rintro e w' ⟨v, rfl, ⟨m0, m1, m2, m3, rfl, h0, h1, h2, h3, hX⟩, hb⟩
  exact ⟨m0, m1, m2, m3, rfl, ⟨h0, h1, h2, h3, hX⟩, hb⟩
set_option maxHeartbeats 2000000 in
set_option maxRecDepth 20000 in
theorem over_zero (a : Int) (ha : InW a) (w : World) :
    Calls Try.prog 26 #[wd a, .int .i64 0] w fun e w' => e = .returned (.int .i64 (ovI a 0)) ∧ Below w.heap.size w w' := by
  obtain ⟨ah, al, ea, a1, a2, a3, a4, Ha⟩ := words ha
  have na := num_at a ha ah al ea
  obtain ⟨y, ey⟩ : ∃ y, ovI a 0 = y := ⟨_, rfl⟩
  have E : Hid ((if decide ((a.natAbs : Int) = 0) then 0 else lim (decide (a < 0))) = y) := by
    show _ = _
    rw [← ey]
    unfold ovI overI lim
    by_cases h0 : a = 0
    · subst h0; rfl
    · by_cases h1 : a < 0
      · simp [h0, h1]
      · simp [h0, h1]
  rw [ea, ey]
  clear ea ey Ha
  obtain ⟨s, es⟩ : ∃ s, decide (a < 0) = s := ⟨_, rfl⟩
  obtain ⟨z, ez⟩ : ∃ z, decide ((a.natAbs : Int) = 0) = z := ⟨_, rfl⟩
  have hz : ∀ m0 m1 m2 m3 : Int, Hid (U m0 ∧ U m1 ∧ U m2 ∧ U m3 ∧ PS 4 m0 m1 m2 m3 = (a.natAbs : Int)) → ∀ W : World, Calls Try.prog 48 #[.agg #[.bool s, .int .u64 m0, .int .u64 m1, .int .u64 m2, .int .u64 m3]] W fun e w' => e = .returned (.bool z) ∧ Below W.heap.size W w' := by
    intro m0 m1 m2 m3 h W
    obtain ⟨h0, h1, h2, h3, hX⟩ := h.out
    rw [← ez]
    exact zero_low s m0 m1 m2 m3 h0 h1 h2 h3 _ hX W
  have hn : ∀ W : World, Calls Try.prog 47 #[.bool s, .bool z] W fun e w' => e = .returned (.int .i64 y) ∧ w' = W := by
    intro W
    have := nought_ref s z W
    have e2 := E.out
    rw [es, ez] at e2
    rw [e2] at this
    exact this
  rw [es] at na
  clear es ez E
  go_enter Try.func26, Try.ntmps26
  go_wp2_with fail
  refine (na _).mono ?_
  rintro e' w1 ⟨m0, m1, m2, m3, rfl, hm, hb1⟩
  have B1 : Below w.heap.size w w1 := Below.trans (by go_grown) (hb1.mono (by first | omega | (simp; try omega)))
  have sz1 : w.heap.size ≤ w1.heap.size := B1.size
  clear hb1
  have hzz := hz m0 m1 m2 m3 hm
  clear hz
  go_wp2_with fail
  go_region_held3 (fun W => W.cell? ⟨w1.heap.size, 0, none⟩ = some (.bool s) ∧ W.cell? ⟨w1.heap.size, 1, none⟩ = some (.int .u64 m0) ∧ W.cell? ⟨w1.heap.size, 2, none⟩ = some (.int .u64 m1) ∧ W.cell? ⟨w1.heap.size, 3, none⟩ = some (.int .u64 m2) ∧ W.cell? ⟨w1.heap.size, 4, none⟩ = some (.int .u64 m3)) (first | assumption | (go_keep; done))
    (first
      | (go_at_call 48; with_reducible refine (hzz _).mono ?_; rintro e' w' ⟨rfl, hbb⟩; have hS := up5 (b := w1.heap.size) (x0 := .bool s) (x1 := .int .u64 m0) (x2 := .int .u64 m1) (x3 := .int .u64 m2) (x4 := .int .u64 m3) hbb (by first | assumption | go_keep); have hBB := below_up2 (w := w) (by first | assumption | go_grown) hbb)
      | (go_at_call 47; with_reducible refine (hn _).mono ?_; rintro e' w' ⟨rfl, rfl⟩))
  all_goals
    go_wp2
    go_ret
    exact ⟨rfl, by first | assumption | go_grown⟩
set_option maxHeartbeats 2000000 in
set_option maxRecDepth 20000 in
theorem over_by (a n : Int) (ha : InW a) (hn : InR n) (h0 : n ≠ 0) (w : World) :
    Calls Try.prog 26 #[wd a, .int .i64 n] w fun e w' => e = .returned (.int .i64 (ovI a n)) ∧ Below w.heap.size w w' := by
  obtain ⟨ah, al, ea, a1, a2, a3, a4, Ha⟩ := words ha
  have na := num_at a ha ah al ea
  obtain ⟨y, ey⟩ : ∃ y, ovI a n = y := ⟨_, rfl⟩
  have E : hold (sv (decide (a < 0) != decide (n < 0)) (rqI (a.natAbs : Int) (n.natAbs : Int))) = y := by
    rw [← ey]
    unfold ovI
    rw [if_neg h0, rqI_nat]
    rfl
  have hd : ∀ m0 m1 m2 m3 : Int, Hid (U m0 ∧ U m1 ∧ U m2 ∧ U m3 ∧ PS 4 m0 m1 m2 m3 = (a.natAbs : Int)) → ∀ W : World, Calls Try.prog 49 #[.agg #[.bool (decide (a < 0)), .int .u64 m0, .int .u64 m1, .int .u64 m2, .int .u64 m3], .int .i64 n] W fun e w' => ∃ u, e = .returned u ∧ IsN u (decide (a < 0) != decide (n < 0)) (rqI (a.natAbs : Int) (n.natAbs : Int)) ∧ Below W.heap.size W w' := by
    intro m0 m1 m2 m3 h W
    obtain ⟨q0, q1, q2, q3, hX⟩ := h.out
    exact divided_any _ _ _ n ⟨m0, m1, m2, m3, rfl, q0, q1, q2, q3, hX⟩ hn h0 W
  have hh : ∀ u : Value, IsN u (decide (a < 0) != decide (n < 0)) (rqI (a.natAbs : Int) (n.natAbs : Int)) → ∀ W : World, Calls Try.prog 29 #[u] W fun e w' => e = .returned (.int .i64 y) ∧ Below W.heap.size W w' := by
    intro u hu W
    have := held_ref u _ _ hu W
    rw [E] at this
    exact this
  rw [ea, ey]
  clear ea ey Ha E
  have hn0 : (n == 0) = false := by simpa using h0
  obtain ⟨s, es⟩ : ∃ s, decide (a < 0) = s := ⟨_, rfl⟩
  rw [es] at na hd hh
  clear es h0
  unfold InR at hn
  go_enter Try.func26, Try.ntmps26
  go_wp2_with fail
  refine (na _).mono ?_
  rintro e' w1 ⟨m0, m1, m2, m3, rfl, hm, hb1⟩
  have B1 : Below w.heap.size w w1 := Below.trans (by go_grown) (hb1.mono (by first | omega | (simp; try omega)))
  have sz1 : w.heap.size ≤ w1.heap.size := B1.size
  clear hb1
  have hdd := hd m0 m1 m2 m3 hm
  clear hd
  go_wp2_with fail
  refine (hdd _).mono ?_
  rintro e' w2 ⟨u, rfl, hu, hb2⟩
  have B2 : Below w.heap.size w w2 := Below.trans (by go_grown) (hb2.mono (by first | omega | (simp; try omega) | (have := B1.size; simp; omega)))
  clear hb2
  go_wp2_with fail
  refine (hh u hu _).mono ?_
  rintro e' w3 ⟨rfl, hb3⟩
  go_wp2
  go_ret
  exact ⟨rfl, below_up2 B2 hb3⟩
theorem over_ref (a n : Int) (ha : InW a) (hn : InR n) (w : World) :
    Calls Try.prog 26 #[wd a, .int .i64 n] w fun e w' => e = .returned (.int .i64 (ovI a n)) ∧ Below w.heap.size w w' := by
  by_cases h : n = 0
  · subst h
    exact over_zero a ha w
  · exact over_by a n ha hn h w
end Go.Proofs.Ytknadgffflhlgaa.Wd
