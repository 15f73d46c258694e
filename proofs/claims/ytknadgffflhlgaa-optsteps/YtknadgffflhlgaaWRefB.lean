/- What the reference's sums, differences, orders, shifts and quotients of 128 bits are. -/
import Derived.Test.YtknadgffflhlgaaWRefA
import Derived.Deep.RegionHeld3
namespace Go.Proofs.Ytknadgffflhlgaa.Wd
open Go.RowKit Fx Rf
set_option linter.unusedVariables false
set_option linter.unusedSimpArgs false
attribute [local go_sem] fld_hi fld_lo setCell_drewN alloc_drewN
theorem below_up2 {w W W1 : World} (h : Below w.heap.size w W) (hb : Below W.heap.size W W1) : Below w.heap.size w W1 := h.trans (hb.mono h.size)
theorem off_two {W : World} {b c i : Nat} {x0 x1 v : Value} (hne : c ≠ b) (h : W.cell? ⟨c, i, none⟩ = some v) : ((W.setCell ⟨b, 0, none⟩ x0).setCell ⟨b, 1, none⟩ x1).cell? ⟨c, i, none⟩ = some v := by
  rw [World.cell?_setCell_other _ _ _ _ (by simp; try omega), World.cell?_setCell_other _ _ _ _ (by simp; try omega)]
  exact h
theorem up4 {W W1 : World} {b c : Nat} {x0 x1 x2 x3 : Value} (hb : Below W.heap.size W W1) (h : W.cell? ⟨b, 0, none⟩ = some x0 ∧ W.cell? ⟨b, 1, none⟩ = some x1 ∧ W.cell? ⟨c, 0, none⟩ = some x2 ∧ W.cell? ⟨c, 1, none⟩ = some x3) :
    W1.cell? ⟨b, 0, none⟩ = some x0 ∧ W1.cell? ⟨b, 1, none⟩ = some x1 ∧ W1.cell? ⟨c, 0, none⟩ = some x2 ∧ W1.cell? ⟨c, 1, none⟩ = some x3 :=
  ⟨keep hb h.1, keep hb h.2.1, keep hb h.2.2.1, keep hb h.2.2.2⟩
theorem upR {W W1 : World} {b : Nat} {x0 x1 : Value} (hb : Below W.heap.size W W1) (h : W.cell? ⟨b, 0, none⟩ = some x0 ∧ W.cell? ⟨b, 1, none⟩ = some x1 ∧ W.frozen? ⟨b, 0, none⟩ = false ∧ W.frozen? ⟨b, 1, none⟩ = false) :
    W1.cell? ⟨b, 0, none⟩ = some x0 ∧ W1.cell? ⟨b, 1, none⟩ = some x1 ∧ W1.frozen? ⟨b, 0, none⟩ = false ∧ W1.frozen? ⟨b, 1, none⟩ = false :=
  ⟨keep hb h.1, keep hb h.2.1, keepf hb h.1 h.2.2.1, keepf hb h.2.1 h.2.2.2⟩
theorem halved_n (v : Value) (s : Bool) (x : Int) (n : Nat) (nn : Int) (en : nn = (n : Int)) (h1 : 1 ≤ n) (h2 : n ≤ 255) (hv : IsN v s x) (w : World) :
    Calls Try.prog 50 #[v, .int .i64 nn] w fun e w' => ∃ u, e = .returned u ∧ IsN u s (rqI x (2 ^ n)) ∧ Below w.heap.size w w' := by
  have hr := hv.rng
  obtain ⟨a0, a1, a2, a3, rfl, p0, p1, p2, p3, hX⟩ := hv
  exact Halved_low s a0 a1 a2 a3 p0 p1 p2 p3 n nn ⟨en, h1⟩ (by omega) x ⟨hX, hr.1, hr.2⟩ w
theorem sv_rq (a : Int) (d : Int) (hd : 0 < d) : sv (decide (a < 0)) (rqI (a.natAbs : Int) d) = rqI a d := by
  unfold sv
  by_cases h : a < 0
  · simp only [h, decide_true, if_true]
    rw [← rqI_neg _ _ hd, show -(a.natAbs : Int) = a by omega]
  · simp only [h, decide_false, Bool.false_eq_true, if_false]
    rw [show (a.natAbs : Int) = a by omega]
theorem rq_in (a : Int) (n : Nat) (h1 : 1 ≤ n) (ha : InW a) : InW (rqI a (2 ^ n)) := by
  obtain ⟨k, rfl⟩ : ∃ k, n = k + 1 := ⟨n - 1, by omega⟩
  have e1 := pow_le a (k + 1) ha
  have e2 := half_in a k ha
  unfold rqI
  split
  · exact e2
  · exact e1
end Go.Proofs.Ytknadgffflhlgaa.Wd
