/- The law ShapeKnown. -/
import Derived.Test.YthcbgmepkmimoaaShpL
namespace Go.Proofs.Ythcbgmepkmimoaa.Wd
open Go.RowKit
set_option linter.unusedVariables false
set_option linter.unusedSimpArgs false
theorem k1 : joinE [2] [3] = 4 := by decide +kernel
theorem k2 : joinE [0] [3] = 1 := by decide +kernel
theorem k3 : joinE [4096, 1] [1, 2] = 2 := by decide +kernel
theorem k4 : atI [2, 3] [1, 2] = 5 := by decide +kernel
theorem k5 : atB [2, 3] [1, 2] = true := by decide +kernel
theorem k6 : decide ((0 : Int) ≤ 5 ∧ (5 : Int) < ((sizeN (ntl [2, 3]) : Nat) : Int)) = true := by decide +kernel
theorem k7 : placeI [2, 3] 5 = [1, 2] := by decide +kernel
theorem k8 : decide ((0 : Int) ≤ 6 ∧ (6 : Int) < ((sizeN (ntl [2, 3]) : Nat) : Int)) = false := by decide +kernel
theorem k9 : fromB [2] [2, 3] 0 = false := by decide +kernel
theorem k10 : decide (goodN (ntl [1, 1, 1, 1, 1])) = false := by decide +kernel
theorem k11 : decide (goodN (ntl [64, 65])) = false := by decide +kernel
theorem k12 : stridesI [2, 3] = [3, 1] := by decide +kernel
set_option maxHeartbeats 4000000 in
theorem sknown_walk (w : World) :
    Calls Try.prog 3 #[] w fun e w' => e = .returned (.bool true) ∧ Below w.heap.size w w' := by
  have c1 := fun (u v : Value) (W : World) (h1 : Nums .i64 W u [2]) (h2 : Nums .i64 W v [3]) => join_any u v [2] [3] (RI_lit (by decide)) (RI_lit (by decide)) W h1 h2
  rw [k1] at c1
  have c2 := fun (u v : Value) (W : World) (h1 : Nums .i64 W u [0]) (h2 : Nums .i64 W v [3]) => join_any u v [0] [3] (RI_lit (by decide)) (RI_lit (by decide)) W h1 h2
  rw [k2] at c2
  have c3 := fun (u v : Value) (W : World) (h1 : Nums .i64 W u [4096, 1]) (h2 : Nums .i64 W v [1, 2]) => join_any u v [4096, 1] [1, 2] (RI_lit (by decide)) (RI_lit (by decide)) W h1 h2
  rw [k3] at c3
  have c4 := fun (u v : Value) (W : World) (h1 : Nums .i64 W u [2, 3]) (h2 : Nums .i64 W v [1, 2]) => sat_any u v [2, 3] [1, 2] (RI_lit (by decide)) (RI_lit (by decide)) W h1 h2
  rw [k4, k5] at c4
  have c5 := fun (u : Value) (W : World) (h1 : Nums .i64 W u [2, 3]) => place_any u [2, 3] (RI_lit (by decide)) 5 W h1
  rw [k6, k7] at c5
  have c6 := fun (u : Value) (W : World) (h1 : Nums .i64 W u [2, 3]) => place_any u [2, 3] (RI_lit (by decide)) 6 W h1
  rw [k8] at c6
  have c7 := fun (u v : Value) (W : World) (h1 : Nums .i64 W u [2]) (h2 : Nums .i64 W v [2, 3]) => from_any u v [2] [2, 3] (RI_lit (by decide)) (RI_lit (by decide)) 0 W h1 h2
  rw [k9] at c7
  have c8 := fun (u v : Value) (W : World) (h1 : Nums .i64 W u [1, 2]) (h2 : Nums .i64 W v [1, 2]) => same_any u v [1, 2] [1, 2] (by decide) W h1 h2
  rw [same23] at c8
  have c9 := fun (u : Value) (W : World) (h1 : Nums .i64 W u [1, 1, 1, 1, 1]) => good_any u [1, 1, 1, 1, 1] (RI_lit (by decide)) W h1
  rw [k10] at c9
  have c10 := fun (u : Value) (W : World) (h1 : Nums .i64 W u [64, 65]) => good_any u [64, 65] (RI_lit (by decide)) W h1
  rw [k11] at c10
  have c11 := fun (u : Value) (W : World) (h1 : Nums .i64 W u [2, 3]) => strides_any u [2, 3] (RI_lit (by decide)) W h1
  rw [k12] at c11
  have c12 := fun (u v : Value) (W : World) (h1 : Nums .i64 W u [3, 1]) (h2 : Nums .i64 W v [3, 1]) => same_any u v [3, 1] [3, 1] (by decide) W h1 h2
  rw [same23] at c12
  go_enter Try.func3, Try.ntmps3
  go_wp2_with fail
  refine (sawake_any w).mono ?_
  rintro e w0 ⟨rfl, hb⟩
  have H0 : Hid (Below w.heap.size w w0) := hb
  clear hb
  go_wp2_with fail
  refine (c1 _ _ _ ?_ ?_).mono ?_
  · exact (nums_lit w0 [2] 1 _ rfl).up (up_alloc _ _)
  · exact nums_lit2 w0 _ [3] 1 _ rfl
  rintro e w1 ⟨v1, rfl, ho, hb⟩
  have H1 : Hid (Below w.heap.size w w1) := bstep (blit (blit H0.out _) _) hb
  clear ho hb c1 H0
  go_wp2_with fail
  refine (c2 _ _ _ ?_ ?_).mono ?_
  · exact (nums_lit w1 [0] 1 _ rfl).up (up_alloc _ _)
  · exact nums_lit2 w1 _ [3] 1 _ rfl
  rintro e w2 ⟨v2, rfl, ho, hb⟩
  have H2 : Hid (Below w.heap.size w w2) := bstep (blit (blit H1.out _) _) hb
  clear ho hb c2 H1
  go_wp2_with fail
  refine (c3 _ _ _ ?_ ?_).mono ?_
  · exact (nums_lit w2 [4096, 1] 2 _ rfl).up (up_alloc _ _)
  · exact nums_lit2 w2 _ [1, 2] 2 _ rfl
  rintro e w3 ⟨v3, rfl, ho, hb⟩
  have H3 : Hid (Below w.heap.size w w3) := bstep (blit (blit H2.out _) _) hb
  clear ho hb c3 H2
  go_wp2_with fail
  refine (c4 _ _ _ ?_ ?_).mono ?_
  · exact (nums_lit w3 [2, 3] 2 _ rfl).up (up_alloc _ _)
  · exact nums_lit2 w3 _ [1, 2] 2 _ rfl
  rintro e w4 ⟨rfl, hw⟩
  have H4 : Hid (Below w.heap.size w w4) := by rw [hw]; exact blit (blit H3.out _) _
  clear hw c4 H3
  go_wp2_with fail
  refine (c5 _ _ ?_).mono ?_
  · exact nums_lit w4 [2, 3] 2 _ rfl
  rintro e w5 ⟨v5, rfl, ho, hb⟩
  have H5 : Hid (Nums .i64 w5 v5 [1, 2] ∧ Below w.heap.size w w5) := ⟨ho.nums, bstep (blit H4.out _) hb⟩
  clear ho hb c5 H4
  go_wp2_with fail
  refine (c6 _ _ ?_).mono ?_
  · exact nums_lit w5 [2, 3] 2 _ rfl
  rintro e w6 ⟨v6, rfl, ho, hb⟩
  have H6 : Hid (Nums .i64 w6 v5 [1, 2] ∧ Below w.heap.size w w6) := ⟨H5.out.1.up (bstep (up_alloc _ _) hb), bstep (blit H5.out.2 _) hb⟩
  clear ho hb c6 H5
  go_wp2_with fail
  refine (c7 _ _ _ ?_ ?_).mono ?_
  · exact (nums_lit w6 [2] 1 _ rfl).up (up_alloc _ _)
  · exact nums_lit2 w6 _ [2, 3] 2 _ rfl
  rintro e w7 ⟨rfl, hb⟩
  have H7 : Hid (Nums .i64 w7 v5 [1, 2] ∧ Below w.heap.size w w7) := ⟨H6.out.1.up (bstep (blit (up_alloc _ _) _) hb), bstep (blit (blit H6.out.2 _) _) hb⟩
  clear hb c7 H6
  go_wp2_with fail
  refine (c8 _ _ _ ?_ ?_).mono ?_
  · exact H7.out.1.up (up_alloc w7 _)
  · exact nums_lit w7 [1, 2] 2 _ rfl
  rintro e w8 ⟨rfl, d, hw⟩
  have H8 : Hid (Below w.heap.size w w8) := by rw [hw]; exact below_drew (blit H7.out.2 _) d
  clear hw c8 H7
  go_wp2_with fail
  refine (c9 _ _ ?_).mono ?_
  · exact nums_lit w8 [1, 1, 1, 1, 1] 5 _ rfl
  rintro e w9 ⟨rfl, hw⟩
  have H9 : Hid (Below w.heap.size w w9) := by rw [hw]; exact blit H8.out _
  clear hw c9 H8
  go_wp2_with fail
  refine (c10 _ _ ?_).mono ?_
  · exact nums_lit w9 [64, 65] 2 _ rfl
  rintro e w10 ⟨rfl, hw⟩
  have H10 : Hid (Below w.heap.size w w10) := by rw [hw]; exact blit H9.out _
  clear hw c10 H9
  go_wp2_with fail
  refine (c11 _ _ ?_).mono ?_
  · exact nums_lit w10 [2, 3] 2 _ rfl
  rintro e w11 ⟨v11, rfl, ho, hb⟩
  have H11 : Hid (Nums .i64 w11 v11 [3, 1] ∧ Below w.heap.size w w11) := ⟨ho.nums, bstep (blit H10.out _) hb⟩
  clear ho hb c11 H10
  go_wp2_with fail
  refine (c12 _ _ _ ?_ ?_).mono ?_
  · exact H11.out.1.up (up_alloc w11 _)
  · exact nums_lit w11 [3, 1] 2 _ rfl
  rintro e w12 ⟨rfl, d2, hw⟩
  have H12 : Hid (Below w.heap.size w w12) := by rw [hw]; exact below_drew (blit H11.out.2 _) d2
  clear hw c12 H11
  go_wp2
  go_ret
  exact ⟨rfl, H12.out⟩
end Go.Proofs.Ythcbgmepkmimoaa.Wd
