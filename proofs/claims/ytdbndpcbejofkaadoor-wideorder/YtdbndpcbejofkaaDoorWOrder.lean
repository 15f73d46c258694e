/- The law WideOrder: sums may be in any order, in any brackets. -/
import Derived.Test.YtdbndpcbejofkaaDoorWAwake
import Derived.Deep.RegionHeld3
namespace Go.Proofs.YtdbndpcbejofkaaDoor.Wd
open Go.RowKit Fx
set_option linter.unusedVariables false
set_option linter.unusedSimpArgs false
theorem wr_zero : wr 0 = 0 := by decide
theorem wd_zero : wd 0 = .agg #[.int .i64 0, .int .u64 0] := (wd_eq (by decide) (by decide)).symm
theorem wr_back (a b : Int) (ha : InW a) : wr (wr (a + b) - b) = a := by unfold InW at ha; unfold wr; omega
theorem below_up {w W W1 : World} (h : Below w.heap.size w W) (hb : Below W.heap.size W W1) : Below w.heap.size w W1 := h.trans (hb.mono h.size)
theorem up6 {W W1 : World} {b c d : Nat} {x0 x1 x2 x3 x4 x5 : Value} (hb : Below W.heap.size W W1) (h : W.cell? ⟨b, 0, none⟩ = some x0 ∧ W.cell? ⟨b, 1, none⟩ = some x1 ∧ W.cell? ⟨c, 0, none⟩ = some x2 ∧ W.cell? ⟨c, 1, none⟩ = some x3 ∧ W.cell? ⟨d, 0, none⟩ = some x4 ∧ W.cell? ⟨d, 1, none⟩ = some x5) :
    W1.cell? ⟨b, 0, none⟩ = some x0 ∧ W1.cell? ⟨b, 1, none⟩ = some x1 ∧ W1.cell? ⟨c, 0, none⟩ = some x2 ∧ W1.cell? ⟨c, 1, none⟩ = some x3 ∧ W1.cell? ⟨d, 0, none⟩ = some x4 ∧ W1.cell? ⟨d, 1, none⟩ = some x5 :=
  ⟨keep hb h.1, keep hb h.2.1, keep hb h.2.2.1, keep hb h.2.2.2.1, keep hb h.2.2.2.2.1, keep hb h.2.2.2.2.2⟩
set_option maxHeartbeats 4000000 in
set_option maxRecDepth 20000 in
theorem order_any (a b c : Int) (ha : InW a) (hb : InW b) (hc : InW c) (w : World) (hT : Hid (Tz w)) :
    Calls Tryd.prog 6 #[wd a, wd b, wd c] w fun e w' => e = .returned (.bool true) ∧ Below w.heap.size w w' := by
  obtain ⟨ah, al, e_a, a1, a2, a3, a4, Ha⟩ := words ha
  obtain ⟨bh, bl, e_b, b1, b2, b3, b4, Hb⟩ := words hb
  obtain ⟨ch, cl, e_c, c1, c2, c3, c4, Hc⟩ := words hc
  obtain ⟨ph, pl, e_p, p1, p2, p3, p4, Hp⟩ := words (wr_rng (a + b))
  obtain ⟨rh, rl, e_r, r1, r2, r3, r4, Hr⟩ := words (wr_rng (a + b + c))
  obtain ⟨qh, ql, e_q, q1, q2, q3, q4, Hq⟩ := words (wr_rng (b + c))
  obtain ⟨mh, ml, e_m, m1, m2, m3, m4, Hm⟩ := words (wr_rng (-a))
  obtain ⟨dh, dl, e_d, d1, d2, d3, d4, Hd⟩ := words (wr_rng (a - b))
  obtain ⟨kh, kl, e_k, k1, k2, k3, k4, Hk⟩ := words (wr_rng (-b))
  have e_z := wd_zero
  have s1 : ∀ W : World, Calls Tryd.prog 17 #[.agg #[.int .i64 ah, .int .u64 al], .agg #[.int .i64 bh, .int .u64 bl]] W fun e w' => e = .returned (.agg #[.int .i64 ph, .int .u64 pl]) ∧ Below W.heap.size W w' := by
    intro W
    have := add_any a b ha hb W
    rw [e_p, e_a, e_b] at this
    exact this
  have s2 : ∀ W : World, Calls Tryd.prog 17 #[.agg #[.int .i64 ph, .int .u64 pl], .agg #[.int .i64 ch, .int .u64 cl]] W fun e w' => e = .returned (.agg #[.int .i64 rh, .int .u64 rl]) ∧ Below W.heap.size W w' := by
    intro W
    have := add_any _ c (wr_rng (a + b)) hc W
    rw [wr_add (a + b) c, e_r, e_p, e_c] at this
    exact this
  have s3 : ∀ W : World, Calls Tryd.prog 17 #[.agg #[.int .i64 bh, .int .u64 bl], .agg #[.int .i64 ch, .int .u64 cl]] W fun e w' => e = .returned (.agg #[.int .i64 qh, .int .u64 ql]) ∧ Below W.heap.size W w' := by
    intro W
    have := add_any b c hb hc W
    rw [e_q, e_b, e_c] at this
    exact this
  have s4 : ∀ W : World, Calls Tryd.prog 17 #[.agg #[.int .i64 ah, .int .u64 al], .agg #[.int .i64 qh, .int .u64 ql]] W fun e w' => e = .returned (.agg #[.int .i64 rh, .int .u64 rl]) ∧ Below W.heap.size W w' := by
    intro W
    have := add_any a _ ha (wr_rng (b + c)) W
    rw [wr_add' a (b + c), ← Int.add_assoc, e_r, e_a, e_q] at this
    exact this
  have s5 : ∀ W : World, Calls Tryd.prog 17 #[.agg #[.int .i64 bh, .int .u64 bl], .agg #[.int .i64 ah, .int .u64 al]] W fun e w' => e = .returned (.agg #[.int .i64 ph, .int .u64 pl]) ∧ Below W.heap.size W w' := by
    intro W
    have := add_any b a hb ha W
    rw [Int.add_comm b a, e_p, e_b, e_a] at this
    exact this
  have s6 : ∀ W : World, Calls Tryd.prog 11 #[.agg #[.int .i64 ah, .int .u64 al]] W fun e w' => e = .returned (.agg #[.int .i64 mh, .int .u64 ml]) ∧ Below W.heap.size W w' := by
    intro W
    have := neg_any a ha W
    rw [e_m, e_a] at this
    exact this
  have s7 : ∀ W : World, Calls Tryd.prog 17 #[.agg #[.int .i64 ah, .int .u64 al], .agg #[.int .i64 mh, .int .u64 ml]] W fun e w' => e = .returned (.agg #[.int .i64 0, .int .u64 0]) ∧ Below W.heap.size W w' := by
    intro W
    have := add_any a _ ha (wr_rng (-a)) W
    rw [wr_add' a (-a), Int.add_right_neg, wr_zero, e_z, e_a, e_m] at this
    exact this
  have s8 : ∀ W : World, Calls Tryd.prog 19 #[.agg #[.int .i64 ah, .int .u64 al], .agg #[.int .i64 bh, .int .u64 bl]] W fun e w' => e = .returned (.agg #[.int .i64 dh, .int .u64 dl]) ∧ Below W.heap.size W w' := by
    intro W
    have := sub_any a b ha hb W
    rw [e_d, e_a, e_b] at this
    exact this
  have s9 : ∀ W : World, Calls Tryd.prog 11 #[.agg #[.int .i64 bh, .int .u64 bl]] W fun e w' => e = .returned (.agg #[.int .i64 kh, .int .u64 kl]) ∧ Below W.heap.size W w' := by
    intro W
    have := neg_any b hb W
    rw [e_k, e_b] at this
    exact this
  have s10 : ∀ W : World, Calls Tryd.prog 17 #[.agg #[.int .i64 ah, .int .u64 al], .agg #[.int .i64 kh, .int .u64 kl]] W fun e w' => e = .returned (.agg #[.int .i64 dh, .int .u64 dl]) ∧ Below W.heap.size W w' := by
    intro W
    have := add_any a _ ha (wr_rng (-b)) W
    rw [wr_add' a (-b), ← Int.sub_eq_add_neg, e_d, e_a, e_k] at this
    exact this
  have s11 : ∀ W : World, Calls Tryd.prog 19 #[.agg #[.int .i64 ph, .int .u64 pl], .agg #[.int .i64 bh, .int .u64 bl]] W fun e w' => e = .returned (.agg #[.int .i64 ah, .int .u64 al]) ∧ Below W.heap.size W w' := by
    intro W
    have := sub_any _ b (wr_rng (a + b)) hb W
    rw [wr_back a b ha, e_a, e_p, e_b] at this
    exact this
  rw [e_a, e_b, e_c]
  clear e_a Ha e_b Hb e_c Hc e_p Hp e_r Hr e_q Hq e_m Hm e_d Hd e_k Hk e_z
  have s0 : ∀ W : World, Below w.heap.size w W → Calls Tryd.prog 9 #[] W fun e w' => e = .returned (.bool true) ∧ Below W.heap.size W w' := fun W h => awake_any W (hT.out.up h)
  go_enter Tryd.func6, Tryd.ntmps6
  go_wp2_with fail
  refine (s0 _ (by go_grown)).mono ?_
  rintro e' w1 ⟨rfl, hb1⟩
  have hB1 : Below w.heap.size w w1 := Below.trans (by go_grown) (hb1.mono (by first | omega | (simp; try omega)))
  have hS1 := up6 (b := w.heap.size) (c := w.heap.size + 1) (d := w.heap.size + 1 + 1) (x0 := .int .i64 ah) (x1 := .int .u64 al) (x2 := .int .i64 bh) (x3 := .int .u64 bl) (x4 := .int .i64 ch) (x5 := .int .u64 cl) hb1 (by simp [go_sem])
  clear hb1
  go_wp2_with fail
  go_region_held3 (fun W => W.cell? ⟨w.heap.size, 0, none⟩ = some (.int .i64 ah) ∧ W.cell? ⟨w.heap.size, 1, none⟩ = some (.int .u64 al) ∧ W.cell? ⟨w.heap.size + 1, 0, none⟩ = some (.int .i64 bh) ∧ W.cell? ⟨w.heap.size + 1, 1, none⟩ = some (.int .u64 bl) ∧ W.cell? ⟨w.heap.size + 1 + 1, 0, none⟩ = some (.int .i64 ch) ∧ W.cell? ⟨w.heap.size + 1 + 1, 1, none⟩ = some (.int .u64 cl)) (first | assumption | go_keep) (first | (go_at_call 17; (first | with_reducible refine (s1 _).mono ?_ | with_reducible refine (s2 _).mono ?_ | with_reducible refine (s3 _).mono ?_ | with_reducible refine (s4 _).mono ?_ | with_reducible refine (s5 _).mono ?_ | with_reducible refine (s7 _).mono ?_ | with_reducible refine (s10 _).mono ?_); rintro e' w' ⟨rfl, hbb⟩; have hS := up6 hbb (by first | assumption | go_keep); have hBB := below_up (w := w) (by first | assumption | go_grown) hbb) | (go_at_call 11; (first | with_reducible refine (s6 _).mono ?_ | with_reducible refine (s9 _).mono ?_); rintro e' w' ⟨rfl, hbb⟩; have hS := up6 hbb (by first | assumption | go_keep); have hBB := below_up (w := w) (by first | assumption | go_grown) hbb) | (go_at_call 19; (first | with_reducible refine (s8 _).mono ?_ | with_reducible refine (s11 _).mono ?_); rintro e' w' ⟨rfl, hbb⟩; have hS := up6 hbb (by first | assumption | go_keep); have hBB := below_up (w := w) (by first | assumption | go_grown) hbb))
  all_goals
    go_wp2
    go_ret
    exact ⟨rfl, by first | assumption | go_grown⟩
end Go.Proofs.YtdbndpcbejofkaaDoor.Wd
