/- The law's awake. -/
import Derived.Test.YthcbgmepkmimoabShpF
namespace Go.Proofs.Ythcbgmepkmimoab.Wd
open Go.RowKit
set_option linter.unusedVariables false
set_option linter.unusedSimpArgs false
theorem RI_lit {l : List Int} (h : (l.all fun y => decide (-9223372036854775808 ≤ y) && decide (y ≤ 9223372036854775807)) = true) : RI l := fun y hy => by
  have := List.all_eq_true.1 h y hy
  simp only [Bool.and_eq_true, decide_eq_true_eq] at this
  exact this
theorem up_alloc (W : World) (o : Obj) : Below W.heap.size W (W.alloc o) := (Below.refl _ _).alloc (Nat.le_refl _) _
theorem bstep {w w1 w2 : World} (h : Below w.heap.size w w1) (h2 : Below w1.heap.size w1 w2) : Below w.heap.size w w2 := h.trans (h2.mono h.size)
theorem blit {w w1 : World} (h : Below w.heap.size w w1) (o : Obj) : Below w.heap.size w (w1.alloc o) := h.trans ((up_alloc w1 o).mono h.size)
theorem j23 : joinE [2, 3] [3] = 0 := by decide +kernel
theorem l23 : joinL [2, 3] [3] = [2, 3] := by decide +kernel
theorem f23 : fromI [3] [2, 3] 4 = 1 := by decide +kernel
theorem b23 : fromB [3] [2, 3] 4 = true := by decide +kernel
theorem z23 : ((sizeN (ntl [2, 3]) : Nat) : Int) = 6 := by decide +kernel
theorem z0 : ((sizeN (ntl []) : Nat) : Int) = 1 := by decide +kernel
theorem g0 : decide (goodN (ntl [])) = true := by decide +kernel
theorem same23 (x y : Int) : decide ([x, y] = [x, y]) = true := decide_eq_true rfl
theorem nums_lit2 {k : IntKind} {e : TypeId} (W : World) (o : Obj) (l : List Int) (n : Nat) (fz : Nat × Nat) (h : l.length = n) : Nums k ((W.alloc o).alloc (.cells (vals k l).toArray e fz)) (.slice (some ⟨W.heap.size + 1, 0, none⟩) n n) l := by
  have := nums_lit (k := k) (e := e) (W.alloc o) l n fz h
  rw [show (W.alloc o).heap.size = W.heap.size + 1 from Array.size_push _] at this
  exact this
set_option maxHeartbeats 2000000 in
theorem sawake_any (w : World) :
    Calls Try.prog 4 #[] w fun e w' => e = .returned (.bool true) ∧ Below w.heap.size w w' := by
  have c1 := fun (u v : Value) (W : World) (h1 : Nums .i64 W u [2, 3]) (h2 : Nums .i64 W v [3]) => join_any u v [2, 3] [3] (RI_lit (by decide)) (RI_lit (by decide)) W h1 h2
  rw [j23, l23] at c1
  have c2 := fun (u v : Value) (W : World) (h1 : Nums .i64 W u [3]) (h2 : Nums .i64 W v [2, 3]) => from_any u v [3] [2, 3] (RI_lit (by decide)) (RI_lit (by decide)) 4 W h1 h2
  rw [f23, b23] at c2
  have c3 := fun (u v : Value) (W : World) (h1 : Nums .i64 W u [2, 3]) (h2 : Nums .i64 W v [2, 3]) => same_any u v [2, 3] [2, 3] (by decide) W h1 h2
  rw [same23] at c3
  have c4 := fun (u : Value) (W : World) (h1 : Nums .i64 W u [2, 3]) => size_any u [2, 3] (RI_lit (by decide)) W h1
  rw [z23] at c4
  have c5 := fun (W : World) => good_any (.slice none 0 0) [] (RI_lit (by decide)) W (.inl ⟨rfl, rfl⟩)
  rw [g0] at c5
  have c6 := fun (W : World) => size_any (.slice none 0 0) [] (RI_lit (by decide)) W (.inl ⟨rfl, rfl⟩)
  rw [z0] at c6
  go_enter Try.func4, Try.ntmps4
  go_wp2_with fail
  refine (c1 _ _ _ ?_ ?_).mono ?_
  · exact (nums_lit w [2, 3] 2 _ rfl).up (up_alloc _ _)
  · exact nums_lit2 w _ [3] 1 _ rfl
  rintro e w1 ⟨v1, rfl, ho, hb⟩
  have H1 : Hid (Nums .i64 w1 v1 [2, 3] ∧ Below w.heap.size w w1) := ⟨ho.nums, bstep (blit (up_alloc w _) _) hb⟩
  clear ho hb c1
  go_wp2_with fail
  refine (c2 _ _ _ ?_ ?_).mono ?_
  · exact (nums_lit w1 [3] 1 _ rfl).up (up_alloc _ _)
  · exact nums_lit2 w1 _ [2, 3] 2 _ rfl
  rintro e w2 ⟨rfl, hb⟩
  have H2 : Hid (Nums .i64 w2 v1 [2, 3] ∧ Below w.heap.size w w2) := ⟨H1.out.1.up (bstep (blit (up_alloc w1 _) _) hb), bstep H1.out.2 (bstep (blit (up_alloc w1 _) _) hb)⟩
  clear hb c2 H1
  go_wp2_with fail
  refine (c3 _ _ _ ?_ ?_).mono ?_
  · exact H2.out.1.up (up_alloc w2 _)
  · exact nums_lit w2 [2, 3] 2 _ rfl
  rintro e w3 ⟨rfl, d, hw⟩
  have H3 : Hid (Below w.heap.size w w3) := by rw [hw]; exact below_drew (blit H2.out.2 _) d
  clear hw c3 H2
  go_wp2_with fail
  refine (c4 _ _ ?_).mono ?_
  · exact nums_lit w3 [2, 3] 2 _ rfl
  rintro e w4 ⟨rfl, hw⟩
  have H4 : Hid (Below w.heap.size w w4) := by rw [hw]; exact blit H3.out _
  clear hw c4 H3
  go_wp2_with fail
  refine (c5 _).mono ?_
  rintro e w5 ⟨rfl, rfl⟩
  go_wp2_with fail
  refine (c6 _).mono ?_
  rintro e w6 ⟨rfl, rfl⟩
  go_wp2
  go_ret
  exact ⟨rfl, H4.out⟩
end Go.Proofs.Ythcbgmepkmimoab.Wd
