/- A number of 128 bits that lies in the two cells of a block, which may be written. -/
import Derived.Test.YthcfeiddbffcfaaDoorWideC
import Derived.Test.YthcfeiddbffcfaaDoorFlow
namespace Go.Proofs.YthcfeiddbffcfaaDoor.Wd
open Go.RowKit Fx
set_option linter.unusedVariables false
set_option linter.unusedSimpArgs false
/-- A number that lies in the two cells of a block, which may be written. -/
def Lies (W : World) (b : Nat) (x : Int) : Prop :=
  b < W.heap.size ∧ W.cell? ⟨b, 0, none⟩ = some (.int .i64 (x / 18446744073709551616)) ∧ W.cell? ⟨b, 1, none⟩ = some (.int .u64 (x % 18446744073709551616)) ∧ W.frozen? ⟨b, 0, none⟩ = false ∧ W.frozen? ⟨b, 1, none⟩ = false
theorem Lies.up {W W' : World} {b : Nat} {x : Int} (h : Lies W b x) (hb : Below W.heap.size W W') : Lies W' b x :=
  ⟨Nat.lt_of_lt_of_le h.1 hb.size, keep hb h.2.1, keep hb h.2.2.1, keepf hb h.2.1 h.2.2.2.1, keepf hb h.2.2.1 h.2.2.2.2⟩
theorem frozen_set (W : World) (p q : Addr) (x : Value) : (W.setCell p x).frozen? q = W.frozen? q := by simp
theorem Lies.off {W : World} {b c : Nat} {x : Int} {y0 y1 : Value} (h : Lies W b x) (hne : b ≠ c) : Lies ((W.setCell ⟨c, 0, none⟩ y0).setCell ⟨c, 1, none⟩ y1) b x := by
  refine ⟨by simpa using h.1, ?_, ?_, ?_, ?_⟩
  · rw [World.cell?_setCell_other _ _ _ _ (by simp; try omega), World.cell?_setCell_other _ _ _ _ (by simp; try omega)]; exact h.2.1
  · rw [World.cell?_setCell_other _ _ _ _ (by simp; try omega), World.cell?_setCell_other _ _ _ _ (by simp; try omega)]; exact h.2.2.1
  · rw [frozen_set, frozen_set]; exact h.2.2.2.1
  · rw [frozen_set, frozen_set]; exact h.2.2.2.2
theorem Lies.set {W : World} {b : Nat} {x y yh yl : Int} (h : Lies W b x) (eh : yh = y / 18446744073709551616) (el : yl = y % 18446744073709551616) : Lies ((W.setCell ⟨b, 0, none⟩ (.int .i64 yh)).setCell ⟨b, 1, none⟩ (.int .u64 yl)) b y := by
  obtain ⟨f0, f1⟩ := two W b (.int .i64 yh) (.int .u64 yl) h.2.1 h.2.2.1
  refine ⟨by simpa using h.1, ?_, ?_, ?_, ?_⟩
  · rw [f0, eh]
  · rw [f1, el]
  · rw [frozen_set, frozen_set]; exact h.2.2.2.1
  · rw [frozen_set, frozen_set]; exact h.2.2.2.2
theorem add_in (x y : Int) (hx : InW x) (hy : InW y) (hxy : InW (x + y)) (W : World) :
    Calls Tryd.prog 59 #[wd x, wd y] W fun e w' => e = .returned (wd (x + y)) ∧ Below W.heap.size W w' := by
  have := add_any x y hx hy W
  rw [wr_in hxy] at this
  exact this
theorem cell_off {W : World} {b c i j : Nat} {x : Value} (h : c ≠ b) : (W.setCell ⟨b, j, none⟩ x).cell? ⟨c, i, none⟩ = W.cell? ⟨c, i, none⟩ := World.cell?_setCell_other _ _ _ _ (by simp; try omega)
theorem set5_off {W : World} {b c i : Nat} {x0 x1 x2 x3 x4 : Value} (h : c ≠ b) : (((((W.setCell ⟨b, 0, none⟩ x0).setCell ⟨b, 1, none⟩ x1).setCell ⟨b, 2, none⟩ x2).setCell ⟨b, 3, none⟩ x3).setCell ⟨b, 4, none⟩ x4).cell? ⟨c, i, none⟩ = W.cell? ⟨c, i, none⟩ :=
  (cell_off h).trans ((cell_off h).trans ((cell_off h).trans ((cell_off h).trans (cell_off h))))
theorem set5_frozen (W : World) (b : Nat) (q : Addr) (x0 x1 x2 x3 x4 : Value) : (((((W.setCell ⟨b, 0, none⟩ x0).setCell ⟨b, 1, none⟩ x1).setCell ⟨b, 2, none⟩ x2).setCell ⟨b, 3, none⟩ x3).setCell ⟨b, 4, none⟩ x4).frozen? q = W.frozen? q :=
  (frozen_set _ _ _ _).trans ((frozen_set _ _ _ _).trans ((frozen_set _ _ _ _).trans ((frozen_set _ _ _ _).trans (frozen_set _ _ _ _))))
theorem set5_size (W : World) (b : Nat) (x0 x1 x2 x3 x4 : Value) : (((((W.setCell ⟨b, 0, none⟩ x0).setCell ⟨b, 1, none⟩ x1).setCell ⟨b, 2, none⟩ x2).setCell ⟨b, 3, none⟩ x3).setCell ⟨b, 4, none⟩ x4).heap.size = W.heap.size := by simp
theorem Lies.off5 {W : World} {b c : Nat} {x : Int} {x0 x1 x2 x3 x4 : Value} (h : Lies W b x) (hne : b ≠ c) : Lies (((((W.setCell ⟨c, 0, none⟩ x0).setCell ⟨c, 1, none⟩ x1).setCell ⟨c, 2, none⟩ x2).setCell ⟨c, 3, none⟩ x3).setCell ⟨c, 4, none⟩ x4) b x := by
  exact ⟨by rw [set5_size]; exact h.1, (set5_off hne).trans h.2.1, (set5_off hne).trans h.2.2.1, (set5_frozen _ _ _ _ _ _ _ _).trans h.2.2.2.1, (set5_frozen _ _ _ _ _ _ _ _).trans h.2.2.2.2⟩
theorem below_set5 {B : Nat} {a w : World} (h : Below B a w) (b : Nat) (hb : B ≤ b) (x0 x1 x2 x3 x4 : Value) : Below B a (((((w.setCell ⟨b, 0, none⟩ x0).setCell ⟨b, 1, none⟩ x1).setCell ⟨b, 2, none⟩ x2).setCell ⟨b, 3, none⟩ x3).setCell ⟨b, 4, none⟩ x4) :=
  ((((h.setCell (p := ⟨b, 0, none⟩) hb x0).setCell (p := ⟨b, 1, none⟩) hb x1).setCell (p := ⟨b, 2, none⟩) hb x2).setCell (p := ⟨b, 3, none⟩) hb x3).setCell (p := ⟨b, 4, none⟩) hb x4
end Go.Proofs.YthcfeiddbffcfaaDoor.Wd
