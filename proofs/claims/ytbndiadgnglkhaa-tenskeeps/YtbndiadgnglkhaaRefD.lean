/- What the reference's sum of two signed numbers is. -/
import Derived.Test.YtbndiadgnglkhaaRefC
import Derived.Deep.RegionWith
namespace Go.Proofs.Ytbndiadgnglkhaa.Rf
open Go.RowKit Fx
set_option linter.unusedVariables false
set_option linter.unusedSimpArgs false
attribute [local go_sem] setCell_drewN alloc_drewN
theorem bcell {B : Nat} {W w1 : World} (hb : Below B W w1) : (∀ b o, b < B → w1.cell? ⟨b, o, none⟩ = W.cell? ⟨b, o, none⟩) ∧ (∀ b o, b < B → w1.frozen? ⟨b, o, none⟩ = W.frozen? ⟨b, o, none⟩) :=
  ⟨fun b o h => hb.cell (p := ⟨b, o, none⟩) h, fun b o h => hb.frozen (p := ⟨b, o, none⟩) h⟩
theorem set_same {W : World} {p : Addr} {x v : Value} (h : W.cell? p = some v) : (W.setCell p x).cell? p = some x := World.cell?_setCell_same _ _ _ h
theorem set_off {W : World} {b i j : Nat} {x : Value} (hij : j ≠ i) : (W.setCell ⟨b, i, none⟩ x).cell? ⟨b, j, none⟩ = W.cell? ⟨b, j, none⟩ := World.cell?_setCell_other _ _ _ _ (by simp; try omega)
theorem five (W : World) (b : Nat) (x0 x1 x2 x3 x4 : Value) {y0 y1 y2 y3 y4 : Value} (h0 : W.cell? ⟨b, 0, none⟩ = some y0) (h1 : W.cell? ⟨b, 1, none⟩ = some y1) (h2 : W.cell? ⟨b, 2, none⟩ = some y2) (h3 : W.cell? ⟨b, 3, none⟩ = some y3) (h4 : W.cell? ⟨b, 4, none⟩ = some y4) :
    (((((W.setCell ⟨b, 0, none⟩ x0).setCell ⟨b, 1, none⟩ x1).setCell ⟨b, 2, none⟩ x2).setCell ⟨b, 3, none⟩ x3).setCell ⟨b, 4, none⟩ x4).cell? ⟨b, 0, none⟩ = some x0 ∧
    (((((W.setCell ⟨b, 0, none⟩ x0).setCell ⟨b, 1, none⟩ x1).setCell ⟨b, 2, none⟩ x2).setCell ⟨b, 3, none⟩ x3).setCell ⟨b, 4, none⟩ x4).cell? ⟨b, 1, none⟩ = some x1 ∧
    (((((W.setCell ⟨b, 0, none⟩ x0).setCell ⟨b, 1, none⟩ x1).setCell ⟨b, 2, none⟩ x2).setCell ⟨b, 3, none⟩ x3).setCell ⟨b, 4, none⟩ x4).cell? ⟨b, 2, none⟩ = some x2 ∧
    (((((W.setCell ⟨b, 0, none⟩ x0).setCell ⟨b, 1, none⟩ x1).setCell ⟨b, 2, none⟩ x2).setCell ⟨b, 3, none⟩ x3).setCell ⟨b, 4, none⟩ x4).cell? ⟨b, 3, none⟩ = some x3 ∧
    (((((W.setCell ⟨b, 0, none⟩ x0).setCell ⟨b, 1, none⟩ x1).setCell ⟨b, 2, none⟩ x2).setCell ⟨b, 3, none⟩ x3).setCell ⟨b, 4, none⟩ x4).cell? ⟨b, 4, none⟩ = some x4 := by
  refine ⟨?_, ?_, ?_, ?_, ?_⟩
  · rw [set_off (by omega), set_off (by omega), set_off (by omega), set_off (by omega)]; exact set_same h0
  · rw [set_off (by omega), set_off (by omega), set_off (by omega)]; exact set_same (by rw [set_off (by omega)]; exact h1)
  · rw [set_off (by omega), set_off (by omega)]; exact set_same (by rw [set_off (by omega), set_off (by omega)]; exact h2)
  · rw [set_off (by omega)]; exact set_same (by rw [set_off (by omega), set_off (by omega), set_off (by omega)]; exact h3)
  · exact set_same (by rw [set_off (by omega), set_off (by omega), set_off (by omega), set_off (by omega)]; exact h4)
set_option maxHeartbeats 4000000 in
theorem Plus_same (s : Bool) (a0 a1 a2 a3 b0 b1 b2 b3 : Int) (p0 : U a0) (p1 : U a1) (p2 : U a2) (p3 : U a3) (q0 : U b0) (q1 : U b1) (q2 : U b2) (q3 : U b3) (w : World) :
    Calls Try.prog 66 #[.agg #[.bool s, .int .u64 a0, .int .u64 a1, .int .u64 a2, .int .u64 a3], .agg #[.bool s, .int .u64 b0, .int .u64 b1, .int .u64 b2, .int .u64 b3]] w fun e w' =>
      ∃ c0 c1 c2 c3 cr : Int, e = .returned (.agg #[.bool s, .int .u64 c0, .int .u64 c1, .int .u64 c2, .int .u64 c3]) ∧ U c0 ∧ U c1 ∧ U c2 ∧ U c3 ∧ Hid (0 ≤ cr ∧ cr ≤ 1 ∧ PS 4 c0 c1 c2 c3 + cr * BP 4 = PS 4 a0 a1 a2 a3 + PS 4 b0 b1 b2 b3) ∧ Below w.heap.size w w' := by
  go_enter Try.func66, Try.ntmps66
  go_wp2_with fail
  go_region_with (go_at_call 73; refine (plus_low a0 a1 a2 a3 b0 b1 b2 b3 p0 p1 p2 p3 q0 q1 q2 q3 _).mono ?_; rintro e w1 ⟨c0, c1, c2, c3, cr, rfl, u0, u1, u2, u3, hinv, hb⟩; obtain ⟨hcell, hfroz⟩ := bcell hb; have hB : Below w.heap.size w w1 := Below.trans (by go_grown) (hb.mono (by simp; try omega)); have hsz := hb.size; simp at hsz)
  all_goals
    go_wp2
    obtain ⟨f0, f1, f2, f3, f4⟩ := five w1 (w.heap.size + 1 + 1) (.bool s) (.int .u64 c0) (.int .u64 c1) (.int .u64 c2) (.int .u64 c3) (by rw [hcell _ _ (by simp)]; simp [go_sem]; rfl) (by rw [hcell _ _ (by simp)]; simp [go_sem]; rfl) (by rw [hcell _ _ (by simp)]; simp [go_sem]; rfl) (by rw [hcell _ _ (by simp)]; simp [go_sem]; rfl) (by rw [hcell _ _ (by simp)]; simp [go_sem]; rfl)
    refine bodyPost_ret (v := .agg #[.bool s, .int .u64 c0, .int .u64 c1, .int .u64 c2, .int .u64 c3]) (by simp [results, Try.results66, go_sem, f0, f1, f2, f3, f4]) rfl ⟨c0, c1, c2, c3, cr, rfl, u0, u1, u2, u3, hinv, ?_⟩
    go_grown
set_option maxHeartbeats 4000000 in
theorem Plus_lt (s t : Bool) (hst : (s == t) = false) (a0 a1 a2 a3 b0 b1 b2 b3 : Int) (p0 : U a0) (p1 : U a1) (p2 : U a2) (p3 : U a3) (q0 : U b0) (q1 : U b1) (q2 : U b2) (q3 : U b3) (hlt : Hid (decide (PS 4 a0 a1 a2 a3 < PS 4 b0 b1 b2 b3) = true)) (w : World) :
    Calls Try.prog 66 #[.agg #[.bool s, .int .u64 a0, .int .u64 a1, .int .u64 a2, .int .u64 a3], .agg #[.bool t, .int .u64 b0, .int .u64 b1, .int .u64 b2, .int .u64 b3]] w fun e w' =>
      ∃ c0 c1 c2 c3 cr : Int, e = .returned (.agg #[.bool t, .int .u64 c0, .int .u64 c1, .int .u64 c2, .int .u64 c3]) ∧ U c0 ∧ U c1 ∧ U c2 ∧ U c3 ∧ Hid (0 ≤ cr ∧ cr ≤ 1 ∧ PS 4 c0 c1 c2 c3 - cr * BP 4 = PS 4 b0 b1 b2 b3 - PS 4 a0 a1 a2 a3) ∧ Below w.heap.size w w' := by
  go_enter Try.func66, Try.ntmps66
  go_wp2_with fail
  refine (less_low a0 a1 a2 a3 b0 b1 b2 b3 p0 p1 p2 p3 q0 q1 q2 q3 _).mono ?_
  rw [hlt.out]
  rintro e w0 ⟨rfl, hb0⟩
  obtain ⟨hcell0, hfroz0⟩ := bcell hb0
  have hB0 : Below w.heap.size w w0 := Below.trans (by go_grown) (hb0.mono (by simp; try omega))
  have hsz0 := hb0.size
  simp at hsz0
  go_wp2_with fail
  go_region_with (go_at_call 75; refine (minus_low b0 b1 b2 b3 a0 a1 a2 a3 q0 q1 q2 q3 p0 p1 p2 p3 _).mono ?_; rintro e w1 ⟨c0, c1, c2, c3, cr, rfl, u0, u1, u2, u3, hinv, hb⟩; have hb3 := Below.trans (c := w1) hb0.drew (hb.mono (by simp; omega)); obtain ⟨hcell, hfroz⟩ := bcell hb3; clear hcell0 hfroz0; simp only [World.size_alloc] at hcell hfroz; have hB : Below w.heap.size w w1 := Below.trans (by go_grown) (hb.mono (by simp; try omega)); have hsz := hb.size; simp at hsz)
  all_goals
    go_wp2
    obtain ⟨f0, f1, f2, f3, f4⟩ := five w1 (w.heap.size + 1 + 1) (.bool t) (.int .u64 c0) (.int .u64 c1) (.int .u64 c2) (.int .u64 c3) (by rw [hcell _ _ (by simp)]; simp [go_sem]; rfl) (by rw [hcell _ _ (by simp)]; simp [go_sem]; rfl) (by rw [hcell _ _ (by simp)]; simp [go_sem]; rfl) (by rw [hcell _ _ (by simp)]; simp [go_sem]; rfl) (by rw [hcell _ _ (by simp)]; simp [go_sem]; rfl)
    refine bodyPost_ret (v := .agg #[.bool t, .int .u64 c0, .int .u64 c1, .int .u64 c2, .int .u64 c3]) (by simp [results, Try.results66, go_sem, f0, f1, f2, f3, f4]) rfl ⟨c0, c1, c2, c3, cr, rfl, u0, u1, u2, u3, hinv, ?_⟩
    go_grown
set_option maxHeartbeats 4000000 in
theorem Plus_ge (s t : Bool) (hst : (s == t) = false) (a0 a1 a2 a3 b0 b1 b2 b3 : Int) (p0 : U a0) (p1 : U a1) (p2 : U a2) (p3 : U a3) (q0 : U b0) (q1 : U b1) (q2 : U b2) (q3 : U b3) (hlt : Hid (decide (PS 4 a0 a1 a2 a3 < PS 4 b0 b1 b2 b3) = false)) (w : World) :
    Calls Try.prog 66 #[.agg #[.bool s, .int .u64 a0, .int .u64 a1, .int .u64 a2, .int .u64 a3], .agg #[.bool t, .int .u64 b0, .int .u64 b1, .int .u64 b2, .int .u64 b3]] w fun e w' =>
      ∃ c0 c1 c2 c3 cr : Int, e = .returned (.agg #[.bool s, .int .u64 c0, .int .u64 c1, .int .u64 c2, .int .u64 c3]) ∧ U c0 ∧ U c1 ∧ U c2 ∧ U c3 ∧ Hid (0 ≤ cr ∧ cr ≤ 1 ∧ PS 4 c0 c1 c2 c3 - cr * BP 4 = PS 4 a0 a1 a2 a3 - PS 4 b0 b1 b2 b3) ∧ Below w.heap.size w w' := by
  go_enter Try.func66, Try.ntmps66
  go_wp2_with fail
  refine (less_low a0 a1 a2 a3 b0 b1 b2 b3 p0 p1 p2 p3 q0 q1 q2 q3 _).mono ?_
  rw [hlt.out]
  rintro e w0 ⟨rfl, hb0⟩
  obtain ⟨hcell0, hfroz0⟩ := bcell hb0
  have hB0 : Below w.heap.size w w0 := Below.trans (by go_grown) (hb0.mono (by simp; try omega))
  have hsz0 := hb0.size
  simp at hsz0
  go_wp2_with fail
  go_region_with (go_at_call 75; refine (minus_low a0 a1 a2 a3 b0 b1 b2 b3 p0 p1 p2 p3 q0 q1 q2 q3 _).mono ?_; rintro e w1 ⟨c0, c1, c2, c3, cr, rfl, u0, u1, u2, u3, hinv, hb⟩; have hb3 := Below.trans (c := w1) hb0.drew (hb.mono (by simp; omega)); obtain ⟨hcell, hfroz⟩ := bcell hb3; clear hcell0 hfroz0; simp only [World.size_alloc] at hcell hfroz; have hB : Below w.heap.size w w1 := Below.trans (by go_grown) (hb.mono (by simp; try omega)); have hsz := hb.size; simp at hsz)
  all_goals
    go_wp2
    obtain ⟨f0, f1, f2, f3, f4⟩ := five w1 (w.heap.size + 1 + 1) (.bool s) (.int .u64 c0) (.int .u64 c1) (.int .u64 c2) (.int .u64 c3) (by rw [hcell _ _ (by simp)]; simp [go_sem]; rfl) (by rw [hcell _ _ (by simp)]; simp [go_sem]; rfl) (by rw [hcell _ _ (by simp)]; simp [go_sem]; rfl) (by rw [hcell _ _ (by simp)]; simp [go_sem]; rfl) (by rw [hcell _ _ (by simp)]; simp [go_sem]; rfl)
    refine bodyPost_ret (v := .agg #[.bool s, .int .u64 c0, .int .u64 c1, .int .u64 c2, .int .u64 c3]) (by simp [results, Try.results66, go_sem, f0, f1, f2, f3, f4]) rfl ⟨c0, c1, c2, c3, cr, rfl, u0, u1, u2, u3, hinv, ?_⟩
    go_grown
end Go.Proofs.Ytbndiadgnglkhaa.Rf
