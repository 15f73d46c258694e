/- The law WideHalves: twice a number, halved, is it; a number halved is off by a half at most. -/
import Derived.Test.YtdbndpcbejofkabDoorWideG
import Derived.Test.YtdbndpcbejofkabDoorWAwake
import Derived.Test.YtdbndpcbejofkabDoorFlow
namespace Go.Proofs.YtdbndpcbejofkabDoor.Wd
open Go.RowKit Fx
set_option linter.unusedVariables false
set_option linter.unusedSimpArgs false
attribute [local go_sem] fld_hi fld_lo
theorem below_up4 {w W W1 : World} (h : Below w.heap.size w W) (hb : Below W.heap.size W W1) : Below w.heap.size w W1 := h.trans (hb.mono h.size)
theorem off_one {W : World} {b c i : Nat} {x0 x1 v : Value} (hne : c ≠ b) (h : W.cell? ⟨c, i, none⟩ = some v) : ((W.setCell ⟨b, 0, none⟩ x0).setCell ⟨b, 1, none⟩ x1).cell? ⟨c, i, none⟩ = some v := by
  rw [World.cell?_setCell_other _ _ _ _ (by simp; try omega), World.cell?_setCell_other _ _ _ _ (by simp; try omega)]
  exact h
theorem off4 {W : World} {b c d : Nat} {x0 x1 y0 y1 y2 y3 : Value} (h : W.cell? ⟨c, 0, none⟩ = some y0 ∧ W.cell? ⟨c, 1, none⟩ = some y1 ∧ W.cell? ⟨d, 0, none⟩ = some y2 ∧ W.cell? ⟨d, 1, none⟩ = some y3) (h1 : c ≠ b) (h2 : d ≠ b) :
    ((W.setCell ⟨b, 0, none⟩ x0).setCell ⟨b, 1, none⟩ x1).cell? ⟨c, 0, none⟩ = some y0 ∧ ((W.setCell ⟨b, 0, none⟩ x0).setCell ⟨b, 1, none⟩ x1).cell? ⟨c, 1, none⟩ = some y1 ∧ ((W.setCell ⟨b, 0, none⟩ x0).setCell ⟨b, 1, none⟩ x1).cell? ⟨d, 0, none⟩ = some y2 ∧ ((W.setCell ⟨b, 0, none⟩ x0).setCell ⟨b, 1, none⟩ x1).cell? ⟨d, 1, none⟩ = some y3 :=
  ⟨off_one h1 h.1, off_one h1 h.2.1, off_one h2 h.2.2.1, off_one h2 h.2.2.2⟩
theorem upp {W W1 : World} {b c : Nat} {x0 x1 x2 x3 : Value} (hb : Below W.heap.size W W1) (h : W.cell? ⟨b, 0, none⟩ = some x0 ∧ W.cell? ⟨b, 1, none⟩ = some x1 ∧ W.cell? ⟨c, 0, none⟩ = some x2 ∧ W.cell? ⟨c, 1, none⟩ = some x3) :
    W1.cell? ⟨b, 0, none⟩ = some x0 ∧ W1.cell? ⟨b, 1, none⟩ = some x1 ∧ W1.cell? ⟨c, 0, none⟩ = some x2 ∧ W1.cell? ⟨c, 1, none⟩ = some x3 :=
  ⟨keep hb h.1, keep hb h.2.1, keep hb h.2.2.1, keep hb h.2.2.2⟩
theorem rq_off (a P : Int) (hP : 0 < P) : 2 * (a - rqI a P * P) ≤ P ∧ -P ≤ 2 * (a - rqI a P * P) := by
  have h1 := Int.mul_ediv_add_emod a P
  have h2 := Int.emod_lt_of_pos a hP
  have h3 := Int.emod_nonneg a (show P ≠ 0 by omega)
  unfold rqI
  split
  · rw [Int.add_mul, Int.mul_comm (a / P) P]; omega
  · rw [Int.mul_comm (a / P) P]; omega
theorem rq_prod (a P : Int) (hP : 0 < P) : rqI (a * P) P = a := by
  unfold rqI
  rw [Int.mul_emod_left, Int.mul_ediv_cancel _ (by omega), if_neg (by omega)]
theorem rq_rng (a : Int) (n : Nat) (h1 : 1 ≤ n) (ha : InR a) : InR (rqI a (2 ^ n)) := by
  obtain ⟨k, rfl⟩ : ∃ k, n = k + 1 := ⟨n - 1, by omega⟩
  have hp := shr_rng a k ha.1 ha.2
  have e : a / 2 ^ (k + 1) = a / 2 ^ k / 2 := by rw [Int.pow_succ, ← dd a (Int.pow_pos (by decide))]
  unfold rqI
  rw [e]
  unfold InR at *
  split <;> omega
theorem two_le (n : Nat) (h : n ≤ 60) : (2 : Int) ^ n ≤ 1152921504606846976 := by
  have h1 : 2 ^ n ≤ 2 ^ 60 := Nat.pow_le_pow_right (by decide) h
  have h2 : ((2 ^ n : Nat) : Int) ≤ ((2 ^ 60 : Nat) : Int) := by omega
  rw [Int.natCast_pow] at h2
  exact h2
set_option maxHeartbeats 1000000 in
theorem halves_off (a n : Int) (ha : InR a) (hn : InR n) (h : n < 1 ∨ 60 < n) (w : World) (hT : Hid (Tz w)) :
    Calls Tryd.prog 4 #[.int .i64 a, .int .i64 n] w fun e w' => e = .returned (.bool true) ∧ Below w.heap.size w w' := by
  have s0 : ∀ W : World, Below w.heap.size w W → Calls Tryd.prog 5 #[] W fun e w' => e = .returned (.bool true) ∧ Below W.heap.size W w' := fun W h => awake_any W (hT.out.up h)
  unfold InR at ha hn
  rcases h with h | h
  all_goals
    go_enter Tryd.func4, Tryd.ntmps4
    go_wp2_with fail
    refine (s0 _ (by go_grown)).mono ?_
    rintro e' w1 ⟨rfl, hb1⟩
    go_wp2
    go_ret
    exact ⟨rfl, hb1⟩
set_option maxHeartbeats 4000000 in
set_option maxRecDepth 20000 in
theorem halves_in (a nn : Int) (n : Nat) (en : nn = (n : Int)) (ha : InR a) (h1 : 1 ≤ n) (h2 : n ≤ 60) (w : World) (hT : Hid (Tz w)) :
    Calls Tryd.prog 4 #[.int .i64 a, .int .i64 nn] w fun e w' => e = .returned (.bool true) ∧ Below w.heap.size w w' := by
  have s0 : ∀ W : World, Below w.heap.size w W → Calls Tryd.prog 5 #[] W fun e w' => e = .returned (.bool true) ∧ Below W.heap.size W w' := fun W h => awake_any W (hT.out.up h)
  have hn : 1 ≤ nn ∧ nn ≤ 60 := by omega
  have hn' : InR nn := by unfold InR; omega
  obtain ⟨P, eP⟩ : ∃ P : Int, (2 : Int) ^ n = P := ⟨_, rfl⟩
  obtain ⟨H, eH⟩ : ∃ H : Int, (2 : Int) ^ (n - 1) = H := ⟨_, rfl⟩
  have hPH : P = H * 2 := by
    have e := Int.pow_succ (2 : Int) (n - 1)
    rw [show (n - 1).succ = n by omega, eP, eH] at e
    exact e
  have hP0 : 0 < H := by rw [← eH]; exact Int.pow_pos (by decide)
  have hP1 : P ≤ 1152921504606846976 := by rw [← eP]; exact two_le n h2
  have r1 : wrap64 (2 ^ nn.toNat) = P := by rw [show nn.toNat = n by omega, eP]; unfold wrap64; omega
  have r2 : wrap64 (2 ^ (nn - 1).toNat) = H := by rw [show (nn - 1).toNat = n - 1 by omega, eH]; unfold wrap64; omega
  have r1' : IntKind.i64.wrap (2 ^ nn.toNat) = P := by rw [← wrap64_eq]; exact r1
  have r2' : IntKind.i64.wrap (2 ^ (nn - 1).toNat) = H := by rw [← wrap64_eq]; exact r2
  have r4 : IntKind.i64.wrap (2 ^ min (IntKind.u64.wrap nn).toNat 64) = P := by rw [IntKind.wrap_u64, show min (nn % 18446744073709551616).toNat 64 = nn.toNat by omega]; exact r1'
  have hPR : InR P := by unfold InR; omega
  have hHR : InR H := by unfold InR; omega
  obtain ⟨q, eq⟩ : ∃ q, rqI a P = q := ⟨_, rfl⟩
  have hqR : InR q := by rw [← eq, ← eP]; exact rq_rng a n h1 ha
  have hoff := rq_off a P (by omega)
  rw [eq] at hoff
  have hxw : InW (a * P) := by
    have h1 := prod_size a P ha hPR
    have h2 := prod_sign a P
    rw [h2]; unfold InW sg; split <;> omega
  have hqw : InW (q * P) := by
    have h1 := prod_size q P hqR hPR
    have h2 := prod_sign q P
    rw [h2]; unfold InW sg; split <;> omega
  obtain ⟨f, ef⟩ : ∃ f, a - q * P = f := ⟨_, rfl⟩
  rw [ef] at hoff
  have hfw : InW f := by unfold InW; omega
  obtain ⟨xh, xl, ex, x1, x2, x3, x4, Hx⟩ := words hxw
  obtain ⟨ah, al, ea, a1, a2, a3, a4, Ha⟩ := words (InR.w ha)
  obtain ⟨qh, ql, eqw, q1, q2, q3, q4, Hq⟩ := words (InR.w hqR)
  obtain ⟨ph, pl, ep, p1, p2, p3, p4, Hp⟩ := words hqw
  obtain ⟨fh, fl, efw, f1, f2, f3, f4, Hf⟩ := words hfw
  obtain ⟨hh, hl, ehw, h3, h4, h5, h6, Hh⟩ := words (InR.w hHR)
  have hNw : InW (-H) := by unfold InW; omega
  obtain ⟨gh, gl, egw, g1, g2, g3, g4, Hg⟩ := words hNw
  have r3 : wrap64 ql = q := by
    have := Hq.out
    unfold InR at hqR
    unfold wrap64; omega
  have r3' : IntKind.i64.wrap ql = q := by rw [← wrap64_eq]; exact r3
  have k1 : ∀ W : World, Calls Tryd.prog 7 #[.int .i64 a, .int .i64 P] W fun e w' => e = .returned (.agg #[.int .i64 xh, .int .u64 xl]) ∧ Below W.heap.size W w' := by
    intro W; have := prod_any a P ha hPR W; rw [ex] at this; exact this
  have k2 : ∀ W : World, Calls Tryd.prog 9 #[.int .i64 a] W fun e w' => e = .returned (.agg #[.int .i64 ah, .int .u64 al]) ∧ Below W.heap.size W w' := by
    intro W; have := of_any a ha W; rw [ea] at this; exact this
  have sh : ∀ y : Int, (if nn < 1 ∨ 126 < nn then y else rqI y (2 ^ nn.toNat)) = rqI y P := by
    intro y; rw [if_neg (by omega), show nn.toNat = n by omega, eP]
  have k3 : ∀ W : World, Below w.heap.size w W → Calls Tryd.prog 10 #[.agg #[.int .i64 ah, .int .u64 al], .int .i64 nn] W fun e w' => e = .returned (.agg #[.int .i64 qh, .int .u64 ql]) ∧ Below W.heap.size W w' := by
    intro W hb; have := shift_any a nn (InR.w ha) hn' W (hT.out.up hb); rw [sh, eq, eqw, ea] at this; exact this
  have k4 : ∀ W : World, Calls Tryd.prog 7 #[.int .i64 q, .int .i64 P] W fun e w' => e = .returned (.agg #[.int .i64 ph, .int .u64 pl]) ∧ Below W.heap.size W w' := by
    intro W; have := prod_any q P hqR hPR W; rw [ep] at this; exact this
  have k4' : ∀ W : World, Calls Tryd.prog 7 #[.int .i64 q, .int .i64 (IntKind.i64.wrap (2 ^ min (IntKind.u64.wrap nn).toNat 64))] W fun e w' => e = .returned (.agg #[.int .i64 ph, .int .u64 pl]) ∧ Below W.heap.size W w' := by
    rw [r4]; exact k4
  have k5 : ∀ W : World, Calls Tryd.prog 11 #[.agg #[.int .i64 ah, .int .u64 al], .agg #[.int .i64 ph, .int .u64 pl]] W fun e w' => e = .returned (.agg #[.int .i64 fh, .int .u64 fl]) ∧ Below W.heap.size W w' := by
    intro W; have := sub_any a (q * P) (InR.w ha) hqw W; rw [ef, wr_in hfw, efw, ea, ep] at this; exact this
  have k6 : ∀ W : World, Calls Tryd.prog 9 #[.int .i64 H] W fun e w' => e = .returned (.agg #[.int .i64 hh, .int .u64 hl]) ∧ Below W.heap.size W w' := by
    intro W; have := of_any H hHR W; rw [ehw] at this; exact this
  have k7 : ∀ W : World, Below w.heap.size w W → Calls Tryd.prog 10 #[.agg #[.int .i64 xh, .int .u64 xl], .int .i64 nn] W fun e w' => e = .returned (.agg #[.int .i64 ah, .int .u64 al]) ∧ Below W.heap.size W w' := by
    intro W hb; have := shift_any (a * P) nn hxw hn' W (hT.out.up hb); rw [sh, rq_prod a P (by omega), ea, ex] at this; exact this
  obtain ⟨u, eu⟩ : ∃ u, cmpI f H = u := ⟨_, rfl⟩
  obtain ⟨v, ev⟩ : ∃ v, cmpI f (-H) = v := ⟨_, rfl⟩
  have hu : u ≤ 0 := by rw [← eu]; unfold cmpI; split <;> (try split) <;> omega
  have hv : 0 ≤ v := by rw [← ev]; unfold cmpI; split <;> (try split) <;> omega
  have k8 : ∀ W : World, Calls Tryd.prog 12 #[.agg #[.int .i64 fh, .int .u64 fl], .agg #[.int .i64 hh, .int .u64 hl]] W fun e w' => e = .returned (.int .i64 u) ∧ Below W.heap.size W w' := by
    intro W; have := cmp_any f H hfw (InR.w hHR) W; rw [eu, efw, ehw] at this; exact this
  have k9 : ∀ W : World, Calls Tryd.prog 13 #[.agg #[.int .i64 hh, .int .u64 hl]] W fun e w' => e = .returned (.agg #[.int .i64 gh, .int .u64 gl]) ∧ Below W.heap.size W w' := by
    intro W; have := neg_any H (InR.w hHR) W; rw [wr_in hNw, egw, ehw] at this; exact this
  have k10 : ∀ W : World, Calls Tryd.prog 12 #[.agg #[.int .i64 fh, .int .u64 fl], .agg #[.int .i64 gh, .int .u64 gl]] W fun e w' => e = .returned (.int .i64 v) ∧ Below W.heap.size W w' := by
    intro W; have := cmp_any f (-H) hfw hNw W; rw [ev, efw, egw] at this; exact this
  have k6' : ∀ W : World, Calls Tryd.prog 9 #[.int .i64 (wrap64 (2 ^ (nn.toNat - 1)))] W fun e w' => e = .returned (.agg #[.int .i64 hh, .int .u64 hl]) ∧ Below W.heap.size W w' := by
    rw [show nn.toNat - 1 = (nn - 1).toNat by omega, r2]; exact k6
  have hu' : decide (u ≤ 0) = true := by simpa using hu
  have hv' : decide (0 ≤ v) = true := by simpa using hv
  clear ex ea eqw ep efw ehw egw Hx Ha Hq Hp Hf Hh Hg hT eu ev ef eq eP eH hoff hPH sh hxw hqw hfw hNw en
  unfold InR at ha hn' hPR hHR hqR
  go_enter Tryd.func4, Tryd.ntmps4
  go_wp2_with fail
  refine (s0 _ (by go_grown)).mono ?_
  rintro e' w1 ⟨rfl, hb1⟩
  have B1 : Below w.heap.size w w1 := hb1
  clear hb1 s0
  go_wp2_with fail
  refine (k1 _).mono ?_
  rintro e' w2 ⟨rfl, hb2⟩
  have B2 := below_up4 B1 hb2
  clear hb2
  have sz2 : w.heap.size ≤ w2.heap.size := B2.size
  go_wp2_with fail
  refine (k2 _).mono ?_
  rintro e' w3 ⟨rfl, hb3⟩
  have B3 : Below w.heap.size w w3 := Below.trans (by go_grown) (hb3.mono (by first | omega | (simp; try omega)))
  have X3 : w3.cell? ⟨w2.heap.size, 0, none⟩ = some (.int .i64 xh) ∧ w3.cell? ⟨w2.heap.size, 1, none⟩ = some (.int .u64 xl) := ⟨keep hb3 (by simp [go_sem]), keep hb3 (by simp [go_sem])⟩
  have sz3 : w2.heap.size < w3.heap.size := by have := hb3.size; simp at this; omega
  clear hb3
  go_wp2_with fail
  refine (k3 _ B3).mono ?_
  rintro e' w4 ⟨rfl, hb4⟩
  have B4 := below_up4 B3 hb4
  have X4 : w4.cell? ⟨w2.heap.size, 0, none⟩ = some (.int .i64 xh) ∧ w4.cell? ⟨w2.heap.size, 1, none⟩ = some (.int .u64 xl) := ⟨keep hb4 X3.1, keep hb4 X3.2⟩
  have sz4 : w2.heap.size < w4.heap.size := by have := hb4.size; omega
  have sz4' : w.heap.size ≤ w4.heap.size := B4.size
  clear hb4 X3
  go_wp2_with fail
  refine name_world (fun W5 hW5 => ?_)
  have B5 : Below w.heap.size w W5 := by rw [hW5]; go_grown
  have X5 : W5.cell? ⟨w2.heap.size, 0, none⟩ = some (.int .i64 xh) ∧ W5.cell? ⟨w2.heap.size, 1, none⟩ = some (.int .u64 xl) ∧ W5.cell? ⟨w4.heap.size, 0, none⟩ = some (.int .i64 qh) ∧ W5.cell? ⟨w4.heap.size, 1, none⟩ = some (.int .u64 ql) := by
    rw [hW5]; simp [go_sem, X4, sz4]
  have sz5 : w4.heap.size < W5.heap.size := by rw [hW5]; simp
  have sz5' : w2.heap.size < W5.heap.size := by omega
  clear hW5
  haveI : Nonempty World := ⟨w⟩
  refine flow_new (.cells #[.int .i64 0, .int .u64 0] 24) 10 11 60 7 (by kernel_rfl) rfl rfl (by kernel_rfl) rfl rfl rfl ?_
  apply Exists.intro
  refine ⟨?_, ?_, ?_⟩
  · intro F hF
    have hFc := hF.cell
    have hFf := hF.frozen
    simp only [List.take_succ_cons, List.take_zero, List.eraseIdx_cons_succ, List.eraseIdx_cons_zero]
    repeat (go_big_quiet_step (first | (go_at_call 9; with_reducible exact hF.call (k2 _)) | (go_at_call 7; first | with_reducible exact hF.call (k4 _) | with_reducible exact hF.call (k4' _)) | (go_at_call 11; with_reducible exact hF.call (k5 _))))
    refine wpQuiet_nil ?_
    exact rfl
  · intro W
    kernel_rfl
  · intro W6 b hW hM
    have Y0 := hM.cell (i := 0) rfl
    have Y1 := hM.cell (i := 1) rfl
    simp only [List.drop_succ_cons, List.drop_zero]
    have Z0 := hM.frozen 0
    have Z1 := hM.frozen 1
    have lt6 : b < W6.heap.size := hM.1
    have ge6 : W5.heap.size ≤ b := hM.2.1
    unfold ptrTo
    go_wp2_with fail
    refine (k6' _).mono ?_
    rintro e' w7 ⟨rfl, hb7⟩
    have sz6 : w.heap.size ≤ W6.heap.size := Nat.le_trans B5.size hW.size
    have B7 : Below w.heap.size w w7 := Below.trans (below_set2 (B5.trans (hW.mono B5.size)) b (by omega) _ _) (hb7.mono (by simpa using sz6))
    have sz7 : W6.heap.size ≤ w7.heap.size := by have := hb7.size; simpa using this
    have x5 : w2.heap.size < W6.heap.size := Nat.lt_of_lt_of_le sz5' hW.size
    have ne5 : w2.heap.size ≠ b := by omega
    have X7 : w7.cell? ⟨w2.heap.size, 0, none⟩ = some (.int .i64 xh) ∧ w7.cell? ⟨w2.heap.size, 1, none⟩ = some (.int .u64 xl) :=
      ⟨keep hb7 (off_one ne5 (keep hW X5.1)), keep hb7 (off_one ne5 (keep hW X5.2.1))⟩
    have Y7 : w7.cell? ⟨b, 0, none⟩ = some (.int .i64 fh) ∧ w7.cell? ⟨b, 1, none⟩ = some (.int .u64 fl) := by
      obtain ⟨f0, f1⟩ := two W6 b (.int .i64 fh) (.int .u64 fl) Y0 Y1
      exact ⟨keep hb7 f0, keep hb7 f1⟩
    clear hb7 hM Y0 Y1 Z0 Z1 X5
    go_wp2_with fail
    refine name_world (fun W8 hW8 => ?_)
    have B8 : Below w.heap.size w W8 := by rw [hW8]; go_grown
    have X8 : W8.cell? ⟨w2.heap.size, 0, none⟩ = some (.int .i64 xh) ∧ W8.cell? ⟨w2.heap.size, 1, none⟩ = some (.int .u64 xl) ∧ W8.cell? ⟨b, 0, none⟩ = some (.int .i64 fh) ∧ W8.cell? ⟨b, 1, none⟩ = some (.int .u64 fl) ∧ W8.cell? ⟨w7.heap.size, 0, none⟩ = some (.int .i64 hh) ∧ W8.cell? ⟨w7.heap.size, 1, none⟩ = some (.int .u64 hl) := by
      have t1 : w2.heap.size < w7.heap.size := by omega
      have t2 : b < w7.heap.size := by omega
      rw [hW8]; simp [go_sem, X7, Y7, t1, t2]
    have sz8 : w7.heap.size < W8.heap.size := by rw [hW8]; simp
    have sz8a : w2.heap.size < W8.heap.size := by omega
    have sz8b : b < W8.heap.size := by omega
    clear hW8
    refine flow 20 60 (by kernel_rfl) rfl rfl (by kernel_rfl) ?_
    apply Exists.intro
    refine ⟨?_, ?_⟩
    · intro F hF
      have hFc := hF.cell
      have hFf := hF.frozen
      simp only [List.take_succ_cons, List.take_zero, List.eraseIdx_cons_succ, List.eraseIdx_cons_zero]
      repeat (go_big_quiet_step (first | (go_at_call 9; with_reducible exact hF.call (k2 _)) | (go_at_call 10; with_reducible exact hF.call (k7 _ (below_up4 B8 (hF.below _)))) | (go_at_call 12; first | with_reducible exact hF.call (k8 _) | with_reducible exact hF.call (k10 _)) | (go_at_call 13; with_reducible exact hF.call (k9 _))))
      refine wpQuiet_nil ?_
      exact rfl
    · intro W9 hW9
      have B9 := below_up4 B8 hW9
      simp only [List.drop_succ_cons, List.drop_zero]
      go_wp2
      go_ret
      exact ⟨rfl, B9⟩
theorem halves_any (a n : Int) (ha : InR a) (hn : InR n) (w : World) (hT : Hid (Tz w)) :
    Calls Tryd.prog 4 #[.int .i64 a, .int .i64 n] w fun e w' => e = .returned (.bool true) ∧ Below w.heap.size w w' := by
  by_cases h : n < 1 ∨ 60 < n
  · exact halves_off a n ha hn h w hT
  · exact halves_in a n n.toNat (by omega) ha (by omega) (by omega) w hT
end Go.Proofs.YtdbndpcbejofkabDoor.Wd
