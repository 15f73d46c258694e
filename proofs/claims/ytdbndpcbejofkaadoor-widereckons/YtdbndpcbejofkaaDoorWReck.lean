/- The law WideReckons: sums, differences, order, parts are as the reference's. -/
import Derived.Test.YtdbndpcbejofkaaDoorWRefC
import Derived.Test.YtdbndpcbejofkaaDoorWAwake
import Derived.Deep.RegionHeld3
namespace Go.Proofs.YtdbndpcbejofkaaDoor.Wd
open Go.RowKit Fx Rf
set_option linter.unusedVariables false
set_option linter.unusedSimpArgs false
theorem shI_in (a n : Int) (ha : InW a) : InW (if n < 1 ∨ 126 < n then a else rqI a (2 ^ n.toNat)) := by
  split
  · exact ha
  · exact rq_in a n.toNat (by omega) ha
set_option maxHeartbeats 8000000 in
set_option maxRecDepth 20000 in
theorem reckons_any (a b n m : Int) (ha : InW a) (hb : InW b) (hn : InR n) (hm : InR m) (w : World) (hT : Hid (Tz w)) :
    Calls Tryd.prog 4 #[wd a, wd b, .int .i64 n, .int .i64 m] w fun e w' => e = .returned (.bool true) ∧ Below w.heap.size w w' := by
  obtain ⟨ah, al, ea, a1, a2, a3, a4, Ha⟩ := words ha
  obtain ⟨bh, bl, eb, b1, b2, b3, b4, Hb⟩ := words hb
  obtain ⟨ph, pl, ep, p1, p2, p3, p4, Hp⟩ := words (wr_rng (a + b))
  obtain ⟨dh, dl, ed, d1, d2, d3, d4, Hd⟩ := words (wr_rng (a - b))
  obtain ⟨kh, kl, ek, k1, k2, k3, k4, Hk⟩ := words (wr_rng (-a))
  obtain ⟨gh, gl, eg, g1, g2, g3, g4, Hg⟩ := words (shI_in a n ha)
  obtain ⟨c, ec⟩ : ∃ c, cmpI a b = c := ⟨_, rfl⟩
  obtain ⟨f, ef⟩ : ∃ f, hold a = f := ⟨_, rfl⟩
  obtain ⟨v, ev⟩ : ∃ v, ovI a m = v := ⟨_, rfl⟩
  have x1 : ∀ W : World, Calls Tryd.prog 17 #[.agg #[.int .i64 ah, .int .u64 al], .agg #[.int .i64 bh, .int .u64 bl]] W fun e w' => e = .returned (.agg #[.int .i64 ph, .int .u64 pl]) ∧ Below W.heap.size W w' := by
    intro W
    have := add_any a b ha hb W
    rw [ep, ea, eb] at this
    exact this
  have y1 : ∀ W : World, Calls Tryd.prog 18 #[.agg #[.int .i64 ah, .int .u64 al], .agg #[.int .i64 bh, .int .u64 bl]] W fun e w' => e = .returned (.agg #[.int .i64 ph, .int .u64 pl]) ∧ Below W.heap.size W w' := by
    intro W
    have := wadd_ref a b ha hb W
    rw [ep, ea, eb] at this
    exact this
  have x2 : ∀ W : World, Calls Tryd.prog 19 #[.agg #[.int .i64 ah, .int .u64 al], .agg #[.int .i64 bh, .int .u64 bl]] W fun e w' => e = .returned (.agg #[.int .i64 dh, .int .u64 dl]) ∧ Below W.heap.size W w' := by
    intro W
    have := sub_any a b ha hb W
    rw [ed, ea, eb] at this
    exact this
  have y2 : ∀ W : World, Calls Tryd.prog 20 #[.agg #[.int .i64 ah, .int .u64 al], .agg #[.int .i64 bh, .int .u64 bl]] W fun e w' => e = .returned (.agg #[.int .i64 dh, .int .u64 dl]) ∧ Below W.heap.size W w' := by
    intro W
    have := wsub_ref a b ha hb W
    rw [ed, ea, eb] at this
    exact this
  have x3 : ∀ W : World, Calls Tryd.prog 11 #[.agg #[.int .i64 ah, .int .u64 al]] W fun e w' => e = .returned (.agg #[.int .i64 kh, .int .u64 kl]) ∧ Below W.heap.size W w' := by
    intro W
    have := neg_any a ha W
    rw [ek, ea] at this
    exact this
  have y3 : ∀ W : World, Calls Tryd.prog 21 #[.agg #[.int .i64 ah, .int .u64 al]] W fun e w' => e = .returned (.agg #[.int .i64 kh, .int .u64 kl]) ∧ Below W.heap.size W w' := by
    intro W
    have := wneg_ref a ha W
    rw [ek, ea] at this
    exact this
  have x4 : ∀ W : World, Calls Tryd.prog 16 #[.agg #[.int .i64 ah, .int .u64 al], .agg #[.int .i64 bh, .int .u64 bl]] W fun e w' => e = .returned (.int .i64 c) ∧ Below W.heap.size W w' := by
    intro W
    have := cmp_any a b ha hb W
    rw [ec, ea, eb] at this
    exact this
  have y4 : ∀ W : World, Calls Tryd.prog 22 #[.agg #[.int .i64 ah, .int .u64 al], .agg #[.int .i64 bh, .int .u64 bl]] W fun e w' => e = .returned (.int .i64 c) ∧ Below W.heap.size W w' := by
    intro W
    have := wcmp_ref a b ha hb W
    rw [ec, ea, eb] at this
    exact this
  have x5 : ∀ W : World, Calls Tryd.prog 13 #[.agg #[.int .i64 ah, .int .u64 al], .int .i64 m] W fun e w' => e = .returned (.int .i64 v) ∧ Below W.heap.size W w' := by
    intro W
    have := over_any a m ha hm W
    rw [ev, ea] at this
    exact this
  have y5 : ∀ W : World, Calls Tryd.prog 26 #[.agg #[.int .i64 ah, .int .u64 al], .int .i64 m] W fun e w' => e = .returned (.int .i64 v) ∧ Below W.heap.size W w' := by
    intro W
    have := over_ref a m ha hm W
    rw [ev, ea] at this
    exact this
  have x6 : ∀ W : World, Below w.heap.size w W → Calls Tryd.prog 15 #[.agg #[.int .i64 ah, .int .u64 al], .int .i64 n] W fun e w' => e = .returned (.agg #[.int .i64 gh, .int .u64 gl]) ∧ Below W.heap.size W w' := by
    intro W hbl
    have := shift_any a n ha hn W (hT.out.up hbl)
    rw [eg, ea] at this
    exact this
  have y6 : ∀ W : World, Calls Tryd.prog 23 #[.agg #[.int .i64 ah, .int .u64 al], .int .i64 n] W fun e w' => e = .returned (.agg #[.int .i64 gh, .int .u64 gl]) ∧ Below W.heap.size W w' := by
    intro W
    have := shift_ref a n ha hn W
    rw [eg, ea] at this
    exact this
  have x7 : ∀ W : World, Calls Tryd.prog 12 #[.agg #[.int .i64 ah, .int .u64 al]] W fun e w' => e = .returned (.int .i64 f) ∧ Below W.heap.size W w' := by
    intro W
    have := fix_any a ha W
    rw [ef, ea] at this
    exact this
  have y7 : ∀ W : World, Calls Tryd.prog 25 #[.agg #[.int .i64 ah, .int .u64 al]] W fun e w' => ∃ u, e = .returned u ∧ IsN u (decide (a < 0)) (a.natAbs : Int) ∧ Below W.heap.size W w' := by
    intro W
    have := num_ref a ha W
    rw [ea] at this
    exact this
  have y8 : ∀ (u : Value), IsN u (decide (a < 0)) (a.natAbs : Int) → ∀ W : World, Calls Tryd.prog 24 #[u] W fun e w' => e = .returned (.int .i64 f) ∧ Below W.heap.size W w' := by
    intro u hu W
    have := held_ref u _ _ hu W
    rw [sv_from, ef] at this
    exact this
  have s0 : ∀ W : World, Below w.heap.size w W → Calls Tryd.prog 9 #[] W fun e w' => e = .returned (.bool true) ∧ Below W.heap.size W w' := fun W h => awake_any W (hT.out.up h)
  rw [ea, eb]
  clear ea eb ep ed ek eg ec ef ev Ha Hb Hp Hd Hk Hg hT ha hb
  unfold InR at hn hm
  go_enter Tryd.func4, Tryd.ntmps4
  go_wp2_with fail
  refine (s0 _ (by go_grown)).mono ?_
  rintro e' w1 ⟨rfl, hb1⟩
  have hB1 : Below w.heap.size w w1 := Below.trans (by go_grown) (hb1.mono (by first | omega | (simp; try omega)))
  have hS1 := up4 (b := w.heap.size) (c := w.heap.size + 1) (x0 := .int .i64 ah) (x1 := .int .u64 al) (x2 := .int .i64 bh) (x3 := .int .u64 bl) hb1 (by simp [go_sem])
  clear hb1 s0
  go_wp2_with fail
  go_region_held3 (fun W => W.cell? ⟨w.heap.size, 0, none⟩ = some (.int .i64 ah) ∧ W.cell? ⟨w.heap.size, 1, none⟩ = some (.int .u64 al) ∧ W.cell? ⟨w.heap.size + 1, 0, none⟩ = some (.int .i64 bh) ∧ W.cell? ⟨w.heap.size + 1, 1, none⟩ = some (.int .u64 bl)) (first | assumption | (go_keep; done))
    (first
      | (go_at_call 17; with_reducible refine (x1 _).mono ?_; rintro e' w' ⟨rfl, hbb⟩; have hS := up4 (b := w.heap.size) (c := w.heap.size + 1) (x0 := .int .i64 ah) (x1 := .int .u64 al) (x2 := .int .i64 bh) (x3 := .int .u64 bl) hbb (by first | assumption | go_keep); have hBB := below_up2 (w := w) (by first | assumption | go_grown) hbb; clear hbb)
      | (go_at_call 18; with_reducible refine (y1 _).mono ?_; rintro e' w' ⟨rfl, hbb⟩; have hS := up4 (b := w.heap.size) (c := w.heap.size + 1) (x0 := .int .i64 ah) (x1 := .int .u64 al) (x2 := .int .i64 bh) (x3 := .int .u64 bl) hbb (by first | assumption | go_keep); have hBB := below_up2 (w := w) (by first | assumption | go_grown) hbb; clear hbb)
      | (go_at_call 19; with_reducible refine (x2 _).mono ?_; rintro e' w' ⟨rfl, hbb⟩; have hS := up4 (b := w.heap.size) (c := w.heap.size + 1) (x0 := .int .i64 ah) (x1 := .int .u64 al) (x2 := .int .i64 bh) (x3 := .int .u64 bl) hbb (by first | assumption | go_keep); have hBB := below_up2 (w := w) (by first | assumption | go_grown) hbb; clear hbb)
      | (go_at_call 20; with_reducible refine (y2 _).mono ?_; rintro e' w' ⟨rfl, hbb⟩; have hS := up4 (b := w.heap.size) (c := w.heap.size + 1) (x0 := .int .i64 ah) (x1 := .int .u64 al) (x2 := .int .i64 bh) (x3 := .int .u64 bl) hbb (by first | assumption | go_keep); have hBB := below_up2 (w := w) (by first | assumption | go_grown) hbb; clear hbb)
      | (go_at_call 11; with_reducible refine (x3 _).mono ?_; rintro e' w' ⟨rfl, hbb⟩; have hS := up4 (b := w.heap.size) (c := w.heap.size + 1) (x0 := .int .i64 ah) (x1 := .int .u64 al) (x2 := .int .i64 bh) (x3 := .int .u64 bl) hbb (by first | assumption | go_keep); have hBB := below_up2 (w := w) (by first | assumption | go_grown) hbb; clear hbb)
      | (go_at_call 21; with_reducible refine (y3 _).mono ?_; rintro e' w' ⟨rfl, hbb⟩; have hS := up4 (b := w.heap.size) (c := w.heap.size + 1) (x0 := .int .i64 ah) (x1 := .int .u64 al) (x2 := .int .i64 bh) (x3 := .int .u64 bl) hbb (by first | assumption | go_keep); have hBB := below_up2 (w := w) (by first | assumption | go_grown) hbb; clear hbb)
      | (go_at_call 16; with_reducible refine (x4 _).mono ?_; rintro e' w' ⟨rfl, hbb⟩; have hS := up4 (b := w.heap.size) (c := w.heap.size + 1) (x0 := .int .i64 ah) (x1 := .int .u64 al) (x2 := .int .i64 bh) (x3 := .int .u64 bl) hbb (by first | assumption | go_keep); have hBB := below_up2 (w := w) (by first | assumption | go_grown) hbb; clear hbb)
      | (go_at_call 22; with_reducible refine (y4 _).mono ?_; rintro e' w' ⟨rfl, hbb⟩; have hS := up4 (b := w.heap.size) (c := w.heap.size + 1) (x0 := .int .i64 ah) (x1 := .int .u64 al) (x2 := .int .i64 bh) (x3 := .int .u64 bl) hbb (by first | assumption | go_keep); have hBB := below_up2 (w := w) (by first | assumption | go_grown) hbb; clear hbb)
      | (go_at_call 13; with_reducible refine (x5 _).mono ?_; rintro e' w' ⟨rfl, hbb⟩; have hS := up4 (b := w.heap.size) (c := w.heap.size + 1) (x0 := .int .i64 ah) (x1 := .int .u64 al) (x2 := .int .i64 bh) (x3 := .int .u64 bl) hbb (by first | assumption | go_keep); have hBB := below_up2 (w := w) (by first | assumption | go_grown) hbb; clear hbb)
      | (go_at_call 26; with_reducible refine (y5 _).mono ?_; rintro e' w' ⟨rfl, hbb⟩; have hS := up4 (b := w.heap.size) (c := w.heap.size + 1) (x0 := .int .i64 ah) (x1 := .int .u64 al) (x2 := .int .i64 bh) (x3 := .int .u64 bl) hbb (by first | assumption | go_keep); have hBB := below_up2 (w := w) (by first | assumption | go_grown) hbb; clear hbb)
      | (go_at_call 15; with_reducible refine (x6 _ (by first | assumption | go_grown)).mono ?_; rintro e' w' ⟨rfl, hbb⟩; have hS := up4 (b := w.heap.size) (c := w.heap.size + 1) (x0 := .int .i64 ah) (x1 := .int .u64 al) (x2 := .int .i64 bh) (x3 := .int .u64 bl) hbb (by first | assumption | go_keep); have hBB := below_up2 (w := w) (by first | assumption | go_grown) hbb; clear hbb)
      | (go_at_call 23; with_reducible refine (y6 _).mono ?_; rintro e' w' ⟨rfl, hbb⟩; have hS := up4 (b := w.heap.size) (c := w.heap.size + 1) (x0 := .int .i64 ah) (x1 := .int .u64 al) (x2 := .int .i64 bh) (x3 := .int .u64 bl) hbb (by first | assumption | go_keep); have hBB := below_up2 (w := w) (by first | assumption | go_grown) hbb; clear hbb)
      | (go_at_call 12; with_reducible refine (x7 _).mono ?_; rintro e' w' ⟨rfl, hbb⟩; have hS := up4 (b := w.heap.size) (c := w.heap.size + 1) (x0 := .int .i64 ah) (x1 := .int .u64 al) (x2 := .int .i64 bh) (x3 := .int .u64 bl) hbb (by first | assumption | go_keep); have hBB := below_up2 (w := w) (by first | assumption | go_grown) hbb; clear hbb)
      | (go_at_call 25; with_reducible refine (y7 _).mono ?_; rintro e' w' ⟨u, rfl, hu, hbb⟩; have hS := up4 (b := w.heap.size) (c := w.heap.size + 1) (x0 := .int .i64 ah) (x1 := .int .u64 al) (x2 := .int .i64 bh) (x3 := .int .u64 bl) hbb (by first | assumption | go_keep); have hBB := below_up2 (w := w) (by first | assumption | go_grown) hbb; clear hbb)
      | (go_at_call 24; with_reducible refine (y8 _ (by assumption) _).mono ?_; rintro e' w' ⟨rfl, hbb⟩; have hS := up4 (b := w.heap.size) (c := w.heap.size + 1) (x0 := .int .i64 ah) (x1 := .int .u64 al) (x2 := .int .i64 bh) (x3 := .int .u64 bl) hbb (by first | assumption | go_keep); have hBB := below_up2 (w := w) (by first | assumption | go_grown) hbb; clear hbb))
  all_goals
    go_wp2
    go_ret
    exact ⟨rfl, by first | assumption | go_grown⟩
end Go.Proofs.YtdbndpcbejofkaaDoor.Wd
