/- MatmKnown: what chapter 7 says of a few. -/
import Derived.Test.YthcfeiddbffcfaaDoorMtN
import Derived.Test.YthcfeiddbffcfaaDoorMtG
namespace Go.Proofs.YthcfeiddbffcfaaDoor.Wd
open Go.RowKit Fx
set_option linter.unusedVariables false
set_option linter.unusedSimpArgs false
theorem sum_tn {D X : List Int} {v : Value} {W : World} (side : Int) (h : Tn D X v W) (hr : InR side) (hD : RI D) (hX : RI X) (hl : D.length ≤ 10) :
    Calls Tryd.prog 13 #[v, .int .i64 side] W fun e w' => ∃ u, e = .returned (.tuple #[u, .int .i64 (smE D X side)]) ∧ Tn (smD D X side) (smV D X side) u w' ∧ Below W.heap.size W w' := by
  obtain ⟨p, n, c, p2, n2, c2, rfl, h1, h2⟩ := h
  obtain ⟨_, _, _, e4, HD⟩ := h1.lst
  cases e4
  exact sum_any _ _ _ _ _ _ D X side hr hD hX (by rw [← HD.out.1]; exact hl) W h1 h2
theorem kn1 : mE [2, 3] [1, 2, 3, 4, 5, 6] [2, 3] [1, 2, 3, 4, 5, 6] = 4 ∧ mD [2, 3] [1, 2, 3, 4, 5, 6] [2, 3] [1, 2, 3, 4, 5, 6] = [] ∧ mV [2, 3] [1, 2, 3, 4, 5, 6] [2, 3] [1, 2, 3, 4, 5, 6] = [] := by decide +kernel
theorem kn2 : flE [2, 3] [1, 2, 3, 4, 5, 6] = 0 ∧ flD [2, 3] [1, 2, 3, 4, 5, 6] = [3, 2] ∧ flV [2, 3] [1, 2, 3, 4, 5, 6] = [1, 4, 2, 5, 3, 6] := by decide +kernel
theorem kn3 : smE [2, 3] [1, 2, 3, 4, 5, 6] 1 = 0 ∧ smD [2, 3] [1, 2, 3, 4, 5, 6] 1 = [2] ∧ smV [2, 3] [1, 2, 3, 4, 5, 6] 1 = [6, 15] := by decide +kernel
theorem kn4 : smE [2, 3] [1, 2, 3, 4, 5, 6] 2 = 1 ∧ smD [2, 3] [1, 2, 3, 4, 5, 6] 2 = [] ∧ smV [2, 3] [1, 2, 3, 4, 5, 6] 2 = [] := by decide +kernel
theorem kn5 : allV [2, 3] [1, 2, 3, 4, 5, 6] = 21 ∧ matE [2, 3] [1, 2, 3, 4, 5, 6] = 0 := by decide +kernel
theorem kn6 : meanV [1, 2] [1, 2] = 2 ∧ matE [1, 2] [1, 2] = 0 := by decide +kernel
theorem kn7 : mE [] [] [2, 3] [1, 2, 3, 4, 5, 6] = 1 ∧ mD [] [] [2, 3] [1, 2, 3, 4, 5, 6] = [] ∧ mV [] [] [2, 3] [1, 2, 3, 4, 5, 6] = [] := by decide +kernel
theorem kn8 : dotI [-9223372036854775808, -9223372036854775808] [-9223372036854775808, -9223372036854775808] = 9223372036854775807 := by decide +kernel
theorem kn9 : dotI [1, 1] [2147483648, 2147483648] = 1 := by decide +kernel
set_option maxRecDepth 10000 in
set_option maxHeartbeats 16000000 in
theorem mknown_walk (w : World) (hT : Hid (Tz w)) :
    Calls Tryd.prog 3 #[] w fun e w' => e = .returned (.bool true) ∧ Below w.heap.size w w' := by
  have HR : Hid (RI [2, 3] ∧ RI [1, 2, 3, 4, 5, 6]) := ⟨RI_kern (by decide +kernel), RI_kern (by decide +kernel)⟩
  haveI : Nonempty World := ⟨w⟩
  go_enter Tryd.func3, Tryd.ntmps3
  go_wp2_with fail
  have HB_w : Hid (Below w.heap.size w w) := Below.refl _ _
  refine (awake7_any w (hT)).mono ?_
  rintro e wa ⟨rfl, hBa⟩
  have HB_wa : Hid (Below w.heap.size w wa) := bstep HB_w.out hBa
  clear hBa
  go_wp2_with fail
  generalize hK1 : World.alloc _ _ = K1
  have hL1 : Below wa.heap.size wa K1 := by rw [← hK1]; exact up_alloc wa _
  have l1 : LitN [1, 2, 3, 4, 5, 6] (.slice (some ⟨wa.heap.size, 0, none⟩) 6 6) K1 := ⟨_, rfl, by rw [← hK1]; exact nums_lit (k := .i64) wa [1, 2, 3, 4, 5, 6] 6 (0, 0) rfl⟩
  have HB_K1 : Hid (Below w.heap.size w K1) := bstep HB_wa.out hL1
  refine (table_lit 2 3 _ _ (by omega) (by simp) rfl K1 l1).mono ?_
  rintro e w1 ⟨v1, rfl, ⟨ps1, ns1, cs1, pt1, nt1, ct1, rfl, hs1, ht1, hk1⟩, hB1⟩
  have HB_w1 : Hid (Below w.heap.size w w1) := bstep HB_K1.out hB1
  have T1_v0 : Hid (TnC [2, 3] [1, 2, 3, 4, 5, 6] (.agg #[.slice ps1 ns1 cs1, .slice pt1 nt1 ct1]) w1) := ⟨_, _, _, _, _, _, rfl, hs1, ht1, hk1⟩
  clear hB1 hs1 ht1 hk1 hK1 hL1 l1 
  go_wp2_with fail
  generalize hW1 : World.alloc _ _ = W1
  have hC1 : Below w1.heap.size w1 W1 := by rw [← hW1]; exact up_alloc w1 _
  have HB_W1 : Hid (Below w.heap.size w W1) := bstep HB_w1.out hC1
  have T1_v1 : Hid (TnC [2, 3] [1, 2, 3, 4, 5, 6] (.agg #[.slice ps1 ns1 cs1, .slice pt1 nt1 ct1]) W1) := T1_v0.out.up hC1
  clear T1_v0
  have X1_v1 : Hid (Cel W1 w1.heap.size (.slice ps1 ns1 cs1) (.slice pt1 nt1 ct1)) := by show Cel _ _ _ _; unfold Cel; rw [← hW1]; simp [go_sem]
  clear hW1 hC1 
  have cm := mul_tn T1_v1.out T1_v1.out.tn HR.out.1 HR.out.2 HR.out.1 HR.out.2 (Hid.up_tz hT HB_W1.out)
  rw [kn1.1, kn1.2.1, kn1.2.2] at cm
  obtain ⟨x10, x11, _, _⟩ := X1_v1.out
  have x1z := cell_lt x10
  go_wp2_with fail
  refine (cm).mono ?_
  rintro e w2 ⟨v2, rfl, ⟨s2, t2, rfl, hs2, ht2⟩, hB2⟩
  obtain ⟨ps2, ns2, cs2, rfl, _⟩ := hs2.nums.lst
  obtain ⟨pt2, nt2, ct2, rfl, _⟩ := ht2.nums.lst
  have HB_w2 : Hid (Below w.heap.size w w2) := bstep HB_W1.out hB2
  have T1_v2 : Hid (TnC [2, 3] [1, 2, 3, 4, 5, 6] (.agg #[.slice ps1 ns1 cs1, .slice pt1 nt1 ct1]) w2) := T1_v1.out.up hB2
  have X1_v2 : Hid (Cel w2 w1.heap.size (.slice ps1 ns1 cs1) (.slice pt1 nt1 ct1)) := X1_v1.out.up hB2
  clear T1_v1 X1_v1
  have T2_v2 : Hid (TnC [] [] (.agg #[.slice ps2 ns2 cs2, .slice pt2 nt2 ct2]) w2) := ⟨_, _, _, _, _, _, rfl, hs2.nums, ht2.nums, ht2.cap⟩
  clear hB2 hs2 ht2 x10 x11 x1z
  obtain ⟨x10, x11, _, _⟩ := X1_v2.out
  have x1z := cell_lt x10
  go_wp2_with fail
  generalize hW2 : World.alloc _ _ = W2
  have hC2 : Below w2.heap.size w2 W2 := by rw [← hW2]; exact up_alloc w2 _
  have HB_W2 : Hid (Below w.heap.size w W2) := bstep HB_w2.out hC2
  have T1_v3 : Hid (TnC [2, 3] [1, 2, 3, 4, 5, 6] (.agg #[.slice ps1 ns1 cs1, .slice pt1 nt1 ct1]) W2) := T1_v2.out.up hC2
  have X1_v3 : Hid (Cel W2 w1.heap.size (.slice ps1 ns1 cs1) (.slice pt1 nt1 ct1)) := X1_v2.out.up hC2
  have T2_v3 : Hid (TnC [] [] (.agg #[.slice ps2 ns2 cs2, .slice pt2 nt2 ct2]) W2) := T2_v2.out.up hC2
  clear T1_v2 X1_v2 T2_v2
  have X2_v3 : Hid (Cel W2 w2.heap.size (.slice ps2 ns2 cs2) (.slice pt2 nt2 ct2)) := by show Cel _ _ _ _; unfold Cel; rw [← hW2]; simp [go_sem]
  clear hW2 hC2 x10 x11 x1z
  clear cm
  have cm := flip_tn T1_v3.out.tn HR.out.1
  rw [kn2.1, kn2.2.1, kn2.2.2] at cm
  obtain ⟨x10, x11, _, _⟩ := X1_v3.out
  have x1z := cell_lt x10
  go_wp2_with fail
  refine (cm).mono ?_
  rintro e w3 ⟨v3, rfl, ⟨s3, t3, rfl, hs3, ht3⟩, hB3⟩
  obtain ⟨ps3, ns3, cs3, rfl, _⟩ := hs3.nums.lst
  obtain ⟨pt3, nt3, ct3, rfl, _⟩ := ht3.nums.lst
  have HB_w3 : Hid (Below w.heap.size w w3) := bstep HB_W2.out hB3
  have T1_v4 : Hid (TnC [2, 3] [1, 2, 3, 4, 5, 6] (.agg #[.slice ps1 ns1 cs1, .slice pt1 nt1 ct1]) w3) := T1_v3.out.up hB3
  have X1_v4 : Hid (Cel w3 w1.heap.size (.slice ps1 ns1 cs1) (.slice pt1 nt1 ct1)) := X1_v3.out.up hB3
  have T2_v4 : Hid (TnC [] [] (.agg #[.slice ps2 ns2 cs2, .slice pt2 nt2 ct2]) w3) := T2_v3.out.up hB3
  have X2_v4 : Hid (Cel w3 w2.heap.size (.slice ps2 ns2 cs2) (.slice pt2 nt2 ct2)) := X2_v3.out.up hB3
  clear T1_v3 X1_v3 T2_v3 X2_v3
  have T3_v4 : Hid (TnC [3, 2] [1, 4, 2, 5, 3, 6] (.agg #[.slice ps3 ns3 cs3, .slice pt3 nt3 ct3]) w3) := ⟨_, _, _, _, _, _, rfl, hs3.nums, ht3.nums, ht3.cap⟩
  clear hB3 hs3 ht3 x10 x11 x1z
  obtain ⟨x10, x11, _, _⟩ := X1_v4.out
  have x1z := cell_lt x10
  go_wp2_with fail
  generalize hW3 : World.alloc _ _ = W3
  have hC3 : Below w3.heap.size w3 W3 := by rw [← hW3]; exact up_alloc w3 _
  have HB_W3 : Hid (Below w.heap.size w W3) := bstep HB_w3.out hC3
  have T1_v5 : Hid (TnC [2, 3] [1, 2, 3, 4, 5, 6] (.agg #[.slice ps1 ns1 cs1, .slice pt1 nt1 ct1]) W3) := T1_v4.out.up hC3
  have X1_v5 : Hid (Cel W3 w1.heap.size (.slice ps1 ns1 cs1) (.slice pt1 nt1 ct1)) := X1_v4.out.up hC3
  have T2_v5 : Hid (TnC [] [] (.agg #[.slice ps2 ns2 cs2, .slice pt2 nt2 ct2]) W3) := T2_v4.out.up hC3
  have X2_v5 : Hid (Cel W3 w2.heap.size (.slice ps2 ns2 cs2) (.slice pt2 nt2 ct2)) := X2_v4.out.up hC3
  have T3_v5 : Hid (TnC [3, 2] [1, 4, 2, 5, 3, 6] (.agg #[.slice ps3 ns3 cs3, .slice pt3 nt3 ct3]) W3) := T3_v4.out.up hC3
  clear T1_v4 X1_v4 T2_v4 X2_v4 T3_v4
  have X3_v5 : Hid (Cel W3 w3.heap.size (.slice ps3 ns3 cs3) (.slice pt3 nt3 ct3)) := by show Cel _ _ _ _; unfold Cel; rw [← hW3]; simp [go_sem]
  clear hW3 hC3 x10 x11 x1z
  clear cm
  have cm := sum_tn 1 T1_v5.out.tn (by unfold InR; omega) HR.out.1 HR.out.2 (by simp)
  rw [kn3.1, kn3.2.1, kn3.2.2] at cm
  obtain ⟨x10, x11, _, _⟩ := X1_v5.out
  have x1z := cell_lt x10
  go_wp2_with fail
  refine (cm).mono ?_
  rintro e w4 ⟨v4, rfl, ⟨ps4, ns4, cs4, pt4, nt4, ct4, rfl, hs4, ht4⟩, hB4⟩
  have HB_w4 : Hid (Below w.heap.size w w4) := bstep HB_W3.out hB4
  have T1_v6 : Hid (TnC [2, 3] [1, 2, 3, 4, 5, 6] (.agg #[.slice ps1 ns1 cs1, .slice pt1 nt1 ct1]) w4) := T1_v5.out.up hB4
  have X1_v6 : Hid (Cel w4 w1.heap.size (.slice ps1 ns1 cs1) (.slice pt1 nt1 ct1)) := X1_v5.out.up hB4
  have T2_v6 : Hid (TnC [] [] (.agg #[.slice ps2 ns2 cs2, .slice pt2 nt2 ct2]) w4) := T2_v5.out.up hB4
  have X2_v6 : Hid (Cel w4 w2.heap.size (.slice ps2 ns2 cs2) (.slice pt2 nt2 ct2)) := X2_v5.out.up hB4
  have T3_v6 : Hid (TnC [3, 2] [1, 4, 2, 5, 3, 6] (.agg #[.slice ps3 ns3 cs3, .slice pt3 nt3 ct3]) w4) := T3_v5.out.up hB4
  have X3_v6 : Hid (Cel w4 w3.heap.size (.slice ps3 ns3 cs3) (.slice pt3 nt3 ct3)) := X3_v5.out.up hB4
  clear T1_v5 X1_v5 T2_v5 X2_v5 T3_v5 X3_v5
  have T4_v6 : Hid (Tn [2] [6, 15] (.agg #[.slice ps4 ns4 cs4, .slice pt4 nt4 ct4]) w4) := ⟨_, _, _, _, _, _, rfl, hs4, ht4⟩
  clear hB4 hs4 ht4 x10 x11 x1z
  obtain ⟨x10, x11, _, _⟩ := X1_v6.out
  have x1z := cell_lt x10
  go_wp2_with fail
  generalize hW4 : World.alloc _ _ = W4
  have hC4 : Below w4.heap.size w4 W4 := by rw [← hW4]; exact up_alloc w4 _
  have HB_W4 : Hid (Below w.heap.size w W4) := bstep HB_w4.out hC4
  have T1_v7 : Hid (TnC [2, 3] [1, 2, 3, 4, 5, 6] (.agg #[.slice ps1 ns1 cs1, .slice pt1 nt1 ct1]) W4) := T1_v6.out.up hC4
  have X1_v7 : Hid (Cel W4 w1.heap.size (.slice ps1 ns1 cs1) (.slice pt1 nt1 ct1)) := X1_v6.out.up hC4
  have T2_v7 : Hid (TnC [] [] (.agg #[.slice ps2 ns2 cs2, .slice pt2 nt2 ct2]) W4) := T2_v6.out.up hC4
  have X2_v7 : Hid (Cel W4 w2.heap.size (.slice ps2 ns2 cs2) (.slice pt2 nt2 ct2)) := X2_v6.out.up hC4
  have T3_v7 : Hid (TnC [3, 2] [1, 4, 2, 5, 3, 6] (.agg #[.slice ps3 ns3 cs3, .slice pt3 nt3 ct3]) W4) := T3_v6.out.up hC4
  have X3_v7 : Hid (Cel W4 w3.heap.size (.slice ps3 ns3 cs3) (.slice pt3 nt3 ct3)) := X3_v6.out.up hC4
  have T4_v7 : Hid (Tn [2] [6, 15] (.agg #[.slice ps4 ns4 cs4, .slice pt4 nt4 ct4]) W4) := T4_v6.out.up hC4
  clear T1_v6 X1_v6 T2_v6 X2_v6 T3_v6 X3_v6 T4_v6
  have X4_v7 : Hid (Cel W4 w4.heap.size (.slice ps4 ns4 cs4) (.slice pt4 nt4 ct4)) := by show Cel _ _ _ _; unfold Cel; rw [← hW4]; simp [go_sem]
  clear hW4 hC4 x10 x11 x1z
  clear cm
  have cm := sum_tn 2 T1_v7.out.tn (by unfold InR; omega) HR.out.1 HR.out.2 (by simp)
  rw [kn4.1, kn4.2.1, kn4.2.2] at cm
  obtain ⟨x10, x11, _, _⟩ := X1_v7.out
  have x1z := cell_lt x10
  go_wp2_with fail
  refine (cm).mono ?_
  rintro e w5 ⟨v5, rfl, ⟨ps5, ns5, cs5, pt5, nt5, ct5, rfl, hs5, ht5⟩, hB5⟩
  have HB_w5 : Hid (Below w.heap.size w w5) := bstep HB_W4.out hB5
  have T1_v8 : Hid (TnC [2, 3] [1, 2, 3, 4, 5, 6] (.agg #[.slice ps1 ns1 cs1, .slice pt1 nt1 ct1]) w5) := T1_v7.out.up hB5
  have X1_v8 : Hid (Cel w5 w1.heap.size (.slice ps1 ns1 cs1) (.slice pt1 nt1 ct1)) := X1_v7.out.up hB5
  have T2_v8 : Hid (TnC [] [] (.agg #[.slice ps2 ns2 cs2, .slice pt2 nt2 ct2]) w5) := T2_v7.out.up hB5
  have X2_v8 : Hid (Cel w5 w2.heap.size (.slice ps2 ns2 cs2) (.slice pt2 nt2 ct2)) := X2_v7.out.up hB5
  have T3_v8 : Hid (TnC [3, 2] [1, 4, 2, 5, 3, 6] (.agg #[.slice ps3 ns3 cs3, .slice pt3 nt3 ct3]) w5) := T3_v7.out.up hB5
  have X3_v8 : Hid (Cel w5 w3.heap.size (.slice ps3 ns3 cs3) (.slice pt3 nt3 ct3)) := X3_v7.out.up hB5
  have T4_v8 : Hid (Tn [2] [6, 15] (.agg #[.slice ps4 ns4 cs4, .slice pt4 nt4 ct4]) w5) := T4_v7.out.up hB5
  have X4_v8 : Hid (Cel w5 w4.heap.size (.slice ps4 ns4 cs4) (.slice pt4 nt4 ct4)) := X4_v7.out.up hB5
  clear T1_v7 X1_v7 T2_v7 X2_v7 T3_v7 X3_v7 T4_v7 X4_v7
  have T5_v8 : Hid (Tn [] [] (.agg #[.slice ps5 ns5 cs5, .slice pt5 nt5 ct5]) w5) := ⟨_, _, _, _, _, _, rfl, hs5, ht5⟩
  clear hB5 hs5 ht5 x10 x11 x1z
  obtain ⟨x10, x11, _, _⟩ := X1_v8.out
  have x1z := cell_lt x10
  go_wp2_with fail
  generalize hW5 : World.alloc _ _ = W5
  have hC5 : Below w5.heap.size w5 W5 := by rw [← hW5]; exact up_alloc w5 _
  have HB_W5 : Hid (Below w.heap.size w W5) := bstep HB_w5.out hC5
  have T1_v9 : Hid (TnC [2, 3] [1, 2, 3, 4, 5, 6] (.agg #[.slice ps1 ns1 cs1, .slice pt1 nt1 ct1]) W5) := T1_v8.out.up hC5
  have X1_v9 : Hid (Cel W5 w1.heap.size (.slice ps1 ns1 cs1) (.slice pt1 nt1 ct1)) := X1_v8.out.up hC5
  have T2_v9 : Hid (TnC [] [] (.agg #[.slice ps2 ns2 cs2, .slice pt2 nt2 ct2]) W5) := T2_v8.out.up hC5
  have X2_v9 : Hid (Cel W5 w2.heap.size (.slice ps2 ns2 cs2) (.slice pt2 nt2 ct2)) := X2_v8.out.up hC5
  have T3_v9 : Hid (TnC [3, 2] [1, 4, 2, 5, 3, 6] (.agg #[.slice ps3 ns3 cs3, .slice pt3 nt3 ct3]) W5) := T3_v8.out.up hC5
  have X3_v9 : Hid (Cel W5 w3.heap.size (.slice ps3 ns3 cs3) (.slice pt3 nt3 ct3)) := X3_v8.out.up hC5
  have T4_v9 : Hid (Tn [2] [6, 15] (.agg #[.slice ps4 ns4 cs4, .slice pt4 nt4 ct4]) W5) := T4_v8.out.up hC5
  have X4_v9 : Hid (Cel W5 w4.heap.size (.slice ps4 ns4 cs4) (.slice pt4 nt4 ct4)) := X4_v8.out.up hC5
  have T5_v9 : Hid (Tn [] [] (.agg #[.slice ps5 ns5 cs5, .slice pt5 nt5 ct5]) W5) := T5_v8.out.up hC5
  clear T1_v8 X1_v8 T2_v8 X2_v8 T3_v8 X3_v8 T4_v8 X4_v8 T5_v8
  have X5_v9 : Hid (Cel W5 w5.heap.size (.slice ps5 ns5 cs5) (.slice pt5 nt5 ct5)) := by show Cel _ _ _ _; unfold Cel; rw [← hW5]; simp [go_sem]
  clear hW5 hC5 x10 x11 x1z
  clear cm
  have cm := all_tn T1_v9.out.tn HR.out.1 HR.out.2
  rw [kn5.1, kn5.2] at cm
  obtain ⟨x10, x11, _, _⟩ := X1_v9.out
  have x1z := cell_lt x10
  go_wp2_with fail
  refine (cm).mono ?_
  rintro e wp ⟨rfl, hBwp⟩
  have HB_wp : Hid (Below w.heap.size w wp) := bstep HB_W5.out hBwp
  have T1_v10 : Hid (TnC [2, 3] [1, 2, 3, 4, 5, 6] (.agg #[.slice ps1 ns1 cs1, .slice pt1 nt1 ct1]) wp) := T1_v9.out.up hBwp
  have X1_v10 : Hid (Cel wp w1.heap.size (.slice ps1 ns1 cs1) (.slice pt1 nt1 ct1)) := X1_v9.out.up hBwp
  have T2_v10 : Hid (TnC [] [] (.agg #[.slice ps2 ns2 cs2, .slice pt2 nt2 ct2]) wp) := T2_v9.out.up hBwp
  have X2_v10 : Hid (Cel wp w2.heap.size (.slice ps2 ns2 cs2) (.slice pt2 nt2 ct2)) := X2_v9.out.up hBwp
  have T3_v10 : Hid (TnC [3, 2] [1, 4, 2, 5, 3, 6] (.agg #[.slice ps3 ns3 cs3, .slice pt3 nt3 ct3]) wp) := T3_v9.out.up hBwp
  have X3_v10 : Hid (Cel wp w3.heap.size (.slice ps3 ns3 cs3) (.slice pt3 nt3 ct3)) := X3_v9.out.up hBwp
  have T4_v10 : Hid (Tn [2] [6, 15] (.agg #[.slice ps4 ns4 cs4, .slice pt4 nt4 ct4]) wp) := T4_v9.out.up hBwp
  have X4_v10 : Hid (Cel wp w4.heap.size (.slice ps4 ns4 cs4) (.slice pt4 nt4 ct4)) := X4_v9.out.up hBwp
  have T5_v10 : Hid (Tn [] [] (.agg #[.slice ps5 ns5 cs5, .slice pt5 nt5 ct5]) wp) := T5_v9.out.up hBwp
  have X5_v10 : Hid (Cel wp w5.heap.size (.slice ps5 ns5 cs5) (.slice pt5 nt5 ct5)) := X5_v9.out.up hBwp
  clear T1_v9 X1_v9 T2_v9 X2_v9 T3_v9 X3_v9 T4_v9 X4_v9 T5_v9 X5_v9
  clear hBwp x10 x11 x1z
  clear cm
  obtain ⟨x10, x11, _, _⟩ := X1_v10.out
  have x1z := cell_lt x10
  go_wp2_with fail
  generalize hK6 : World.alloc _ _ = K6
  have hL6 : Below wp.heap.size wp K6 := by rw [← hK6]; exact up_alloc wp _
  have l6 : LitN [1, 2] (.slice (some ⟨wp.heap.size, 0, none⟩) 2 2) K6 := ⟨_, rfl, by rw [← hK6]; exact nums_lit (k := .i64) wp [1, 2] 2 (0, 0) rfl⟩
  have HB_K6 : Hid (Below w.heap.size w K6) := bstep HB_wp.out hL6
  have T1_v11 : Hid (TnC [2, 3] [1, 2, 3, 4, 5, 6] (.agg #[.slice ps1 ns1 cs1, .slice pt1 nt1 ct1]) K6) := T1_v10.out.up hL6
  have X1_v11 : Hid (Cel K6 w1.heap.size (.slice ps1 ns1 cs1) (.slice pt1 nt1 ct1)) := X1_v10.out.up hL6
  have T2_v11 : Hid (TnC [] [] (.agg #[.slice ps2 ns2 cs2, .slice pt2 nt2 ct2]) K6) := T2_v10.out.up hL6
  have X2_v11 : Hid (Cel K6 w2.heap.size (.slice ps2 ns2 cs2) (.slice pt2 nt2 ct2)) := X2_v10.out.up hL6
  have T3_v11 : Hid (TnC [3, 2] [1, 4, 2, 5, 3, 6] (.agg #[.slice ps3 ns3 cs3, .slice pt3 nt3 ct3]) K6) := T3_v10.out.up hL6
  have X3_v11 : Hid (Cel K6 w3.heap.size (.slice ps3 ns3 cs3) (.slice pt3 nt3 ct3)) := X3_v10.out.up hL6
  have T4_v11 : Hid (Tn [2] [6, 15] (.agg #[.slice ps4 ns4 cs4, .slice pt4 nt4 ct4]) K6) := T4_v10.out.up hL6
  have X4_v11 : Hid (Cel K6 w4.heap.size (.slice ps4 ns4 cs4) (.slice pt4 nt4 ct4)) := X4_v10.out.up hL6
  have T5_v11 : Hid (Tn [] [] (.agg #[.slice ps5 ns5 cs5, .slice pt5 nt5 ct5]) K6) := T5_v10.out.up hL6
  have X5_v11 : Hid (Cel K6 w5.heap.size (.slice ps5 ns5 cs5) (.slice pt5 nt5 ct5)) := X5_v10.out.up hL6
  clear T1_v10 X1_v10 T2_v10 X2_v10 T3_v10 X3_v10 T4_v10 X4_v10 T5_v10 X5_v10
  refine (table_lit 1 2 _ _ (by omega) (by simp) rfl K6 l6).mono ?_
  rintro e w6 ⟨v6, rfl, ⟨ps6, ns6, cs6, pt6, nt6, ct6, rfl, hs6, ht6, hk6⟩, hB6⟩
  have HB_w6 : Hid (Below w.heap.size w w6) := bstep HB_K6.out hB6
  have T1_v12 : Hid (TnC [2, 3] [1, 2, 3, 4, 5, 6] (.agg #[.slice ps1 ns1 cs1, .slice pt1 nt1 ct1]) w6) := T1_v11.out.up hB6
  have X1_v12 : Hid (Cel w6 w1.heap.size (.slice ps1 ns1 cs1) (.slice pt1 nt1 ct1)) := X1_v11.out.up hB6
  have T2_v12 : Hid (TnC [] [] (.agg #[.slice ps2 ns2 cs2, .slice pt2 nt2 ct2]) w6) := T2_v11.out.up hB6
  have X2_v12 : Hid (Cel w6 w2.heap.size (.slice ps2 ns2 cs2) (.slice pt2 nt2 ct2)) := X2_v11.out.up hB6
  have T3_v12 : Hid (TnC [3, 2] [1, 4, 2, 5, 3, 6] (.agg #[.slice ps3 ns3 cs3, .slice pt3 nt3 ct3]) w6) := T3_v11.out.up hB6
  have X3_v12 : Hid (Cel w6 w3.heap.size (.slice ps3 ns3 cs3) (.slice pt3 nt3 ct3)) := X3_v11.out.up hB6
  have T4_v12 : Hid (Tn [2] [6, 15] (.agg #[.slice ps4 ns4 cs4, .slice pt4 nt4 ct4]) w6) := T4_v11.out.up hB6
  have X4_v12 : Hid (Cel w6 w4.heap.size (.slice ps4 ns4 cs4) (.slice pt4 nt4 ct4)) := X4_v11.out.up hB6
  have T5_v12 : Hid (Tn [] [] (.agg #[.slice ps5 ns5 cs5, .slice pt5 nt5 ct5]) w6) := T5_v11.out.up hB6
  have X5_v12 : Hid (Cel w6 w5.heap.size (.slice ps5 ns5 cs5) (.slice pt5 nt5 ct5)) := X5_v11.out.up hB6
  clear T1_v11 X1_v11 T2_v11 X2_v11 T3_v11 X3_v11 T4_v11 X4_v11 T5_v11 X5_v11
  have T6_v12 : Hid (TnC [1, 2] [1, 2] (.agg #[.slice ps6 ns6 cs6, .slice pt6 nt6 ct6]) w6) := ⟨_, _, _, _, _, _, rfl, hs6, ht6, hk6⟩
  clear hB6 hs6 ht6 hk6 hK6 hL6 l6 x10 x11 x1z
  have cm := mean_tn T6_v12.out.tn (RI_kern (by decide +kernel)) (RI_kern (by decide +kernel))
  rw [kn6.1, kn6.2] at cm
  obtain ⟨x10, x11, _, _⟩ := X1_v12.out
  have x1z := cell_lt x10
  go_wp2_with fail
  refine (cm).mono ?_
  rintro e wq ⟨rfl, hBwq⟩
  have HB_wq : Hid (Below w.heap.size w wq) := bstep HB_w6.out hBwq
  have T1_v13 : Hid (TnC [2, 3] [1, 2, 3, 4, 5, 6] (.agg #[.slice ps1 ns1 cs1, .slice pt1 nt1 ct1]) wq) := T1_v12.out.up hBwq
  have X1_v13 : Hid (Cel wq w1.heap.size (.slice ps1 ns1 cs1) (.slice pt1 nt1 ct1)) := X1_v12.out.up hBwq
  have T2_v13 : Hid (TnC [] [] (.agg #[.slice ps2 ns2 cs2, .slice pt2 nt2 ct2]) wq) := T2_v12.out.up hBwq
  have X2_v13 : Hid (Cel wq w2.heap.size (.slice ps2 ns2 cs2) (.slice pt2 nt2 ct2)) := X2_v12.out.up hBwq
  have T3_v13 : Hid (TnC [3, 2] [1, 4, 2, 5, 3, 6] (.agg #[.slice ps3 ns3 cs3, .slice pt3 nt3 ct3]) wq) := T3_v12.out.up hBwq
  have X3_v13 : Hid (Cel wq w3.heap.size (.slice ps3 ns3 cs3) (.slice pt3 nt3 ct3)) := X3_v12.out.up hBwq
  have T4_v13 : Hid (Tn [2] [6, 15] (.agg #[.slice ps4 ns4 cs4, .slice pt4 nt4 ct4]) wq) := T4_v12.out.up hBwq
  have X4_v13 : Hid (Cel wq w4.heap.size (.slice ps4 ns4 cs4) (.slice pt4 nt4 ct4)) := X4_v12.out.up hBwq
  have T5_v13 : Hid (Tn [] [] (.agg #[.slice ps5 ns5 cs5, .slice pt5 nt5 ct5]) wq) := T5_v12.out.up hBwq
  have X5_v13 : Hid (Cel wq w5.heap.size (.slice ps5 ns5 cs5) (.slice pt5 nt5 ct5)) := X5_v12.out.up hBwq
  have T6_v13 : Hid (TnC [1, 2] [1, 2] (.agg #[.slice ps6 ns6 cs6, .slice pt6 nt6 ct6]) wq) := T6_v12.out.up hBwq
  clear T1_v12 X1_v12 T2_v12 X2_v12 T3_v12 X3_v12 T4_v12 X4_v12 T5_v12 X5_v12 T6_v12
  clear hBwq x10 x11 x1z
  clear cm
  have cm := mul_tn (W := wq) (v := .agg #[.slice none 0 0, .slice none 0 0]) (D := []) (X := []) ⟨_, _, _, _, _, _, rfl, .inl ⟨rfl, rfl⟩, .inl ⟨rfl, rfl⟩, Nat.le_refl _⟩ T1_v13.out.tn (RI_kern rfl) (RI_kern rfl) HR.out.1 HR.out.2 (Hid.up_tz hT HB_wq.out)
  rw [kn7.1, kn7.2.1, kn7.2.2] at cm
  obtain ⟨x10, x11, _, _⟩ := X1_v13.out
  have x1z := cell_lt x10
  go_wp2_with fail
  refine (cm).mono ?_
  rintro e w7 ⟨v7, rfl, ⟨s7, t7, rfl, hs7, ht7⟩, hB7⟩
  obtain ⟨ps7, ns7, cs7, rfl, _⟩ := hs7.nums.lst
  obtain ⟨pt7, nt7, ct7, rfl, _⟩ := ht7.nums.lst
  have HB_w7 : Hid (Below w.heap.size w w7) := bstep HB_wq.out hB7
  have T1_v14 : Hid (TnC [2, 3] [1, 2, 3, 4, 5, 6] (.agg #[.slice ps1 ns1 cs1, .slice pt1 nt1 ct1]) w7) := T1_v13.out.up hB7
  have X1_v14 : Hid (Cel w7 w1.heap.size (.slice ps1 ns1 cs1) (.slice pt1 nt1 ct1)) := X1_v13.out.up hB7
  have T2_v14 : Hid (TnC [] [] (.agg #[.slice ps2 ns2 cs2, .slice pt2 nt2 ct2]) w7) := T2_v13.out.up hB7
  have X2_v14 : Hid (Cel w7 w2.heap.size (.slice ps2 ns2 cs2) (.slice pt2 nt2 ct2)) := X2_v13.out.up hB7
  have T3_v14 : Hid (TnC [3, 2] [1, 4, 2, 5, 3, 6] (.agg #[.slice ps3 ns3 cs3, .slice pt3 nt3 ct3]) w7) := T3_v13.out.up hB7
  have X3_v14 : Hid (Cel w7 w3.heap.size (.slice ps3 ns3 cs3) (.slice pt3 nt3 ct3)) := X3_v13.out.up hB7
  have T4_v14 : Hid (Tn [2] [6, 15] (.agg #[.slice ps4 ns4 cs4, .slice pt4 nt4 ct4]) w7) := T4_v13.out.up hB7
  have X4_v14 : Hid (Cel w7 w4.heap.size (.slice ps4 ns4 cs4) (.slice pt4 nt4 ct4)) := X4_v13.out.up hB7
  have T5_v14 : Hid (Tn [] [] (.agg #[.slice ps5 ns5 cs5, .slice pt5 nt5 ct5]) w7) := T5_v13.out.up hB7
  have X5_v14 : Hid (Cel w7 w5.heap.size (.slice ps5 ns5 cs5) (.slice pt5 nt5 ct5)) := X5_v13.out.up hB7
  have T6_v14 : Hid (TnC [1, 2] [1, 2] (.agg #[.slice ps6 ns6 cs6, .slice pt6 nt6 ct6]) w7) := T6_v13.out.up hB7
  clear T1_v13 X1_v13 T2_v13 X2_v13 T3_v13 X3_v13 T4_v13 X4_v13 T5_v13 X5_v13 T6_v13
  have T7_v14 : Hid (TnC [] [] (.agg #[.slice ps7 ns7 cs7, .slice pt7 nt7 ct7]) w7) := ⟨_, _, _, _, _, _, rfl, hs7.nums, ht7.nums, ht7.cap⟩
  clear hB7 hs7 ht7 x10 x11 x1z
  obtain ⟨x10, x11, _, _⟩ := X1_v14.out
  have x1z := cell_lt x10
  go_wp2_with fail
  generalize hW7 : World.alloc _ _ = W7
  have hC7 : Below w7.heap.size w7 W7 := by rw [← hW7]; exact up_alloc w7 _
  have HB_W7 : Hid (Below w.heap.size w W7) := bstep HB_w7.out hC7
  have T1_v15 : Hid (TnC [2, 3] [1, 2, 3, 4, 5, 6] (.agg #[.slice ps1 ns1 cs1, .slice pt1 nt1 ct1]) W7) := T1_v14.out.up hC7
  have X1_v15 : Hid (Cel W7 w1.heap.size (.slice ps1 ns1 cs1) (.slice pt1 nt1 ct1)) := X1_v14.out.up hC7
  have T2_v15 : Hid (TnC [] [] (.agg #[.slice ps2 ns2 cs2, .slice pt2 nt2 ct2]) W7) := T2_v14.out.up hC7
  have X2_v15 : Hid (Cel W7 w2.heap.size (.slice ps2 ns2 cs2) (.slice pt2 nt2 ct2)) := X2_v14.out.up hC7
  have T3_v15 : Hid (TnC [3, 2] [1, 4, 2, 5, 3, 6] (.agg #[.slice ps3 ns3 cs3, .slice pt3 nt3 ct3]) W7) := T3_v14.out.up hC7
  have X3_v15 : Hid (Cel W7 w3.heap.size (.slice ps3 ns3 cs3) (.slice pt3 nt3 ct3)) := X3_v14.out.up hC7
  have T4_v15 : Hid (Tn [2] [6, 15] (.agg #[.slice ps4 ns4 cs4, .slice pt4 nt4 ct4]) W7) := T4_v14.out.up hC7
  have X4_v15 : Hid (Cel W7 w4.heap.size (.slice ps4 ns4 cs4) (.slice pt4 nt4 ct4)) := X4_v14.out.up hC7
  have T5_v15 : Hid (Tn [] [] (.agg #[.slice ps5 ns5 cs5, .slice pt5 nt5 ct5]) W7) := T5_v14.out.up hC7
  have X5_v15 : Hid (Cel W7 w5.heap.size (.slice ps5 ns5 cs5) (.slice pt5 nt5 ct5)) := X5_v14.out.up hC7
  have T6_v15 : Hid (TnC [1, 2] [1, 2] (.agg #[.slice ps6 ns6 cs6, .slice pt6 nt6 ct6]) W7) := T6_v14.out.up hC7
  have T7_v15 : Hid (TnC [] [] (.agg #[.slice ps7 ns7 cs7, .slice pt7 nt7 ct7]) W7) := T7_v14.out.up hC7
  clear T1_v14 X1_v14 T2_v14 X2_v14 T3_v14 X3_v14 T4_v14 X4_v14 T5_v14 X5_v14 T6_v14 T7_v14
  have X7_v15 : Hid (Cel W7 w7.heap.size (.slice ps7 ns7 cs7) (.slice pt7 nt7 ct7)) := by show Cel _ _ _ _; unfold Cel; rw [← hW7]; simp [go_sem]
  clear hW7 hC7 x10 x11 x1z
  clear cm
  have HS1 : Hid (∀ W v, Below W7.heap.size W7 W → TnC [3, 2] [1, 4, 2, 5, 3, 6] v W → Calls Tryd.prog 16 #[.agg #[.slice ps3 ns3 cs3, .slice pt3 nt3 ct3], v] W fun e w' => e = .returned (.bool true) ∧ Below W.heap.size W w') := fun W v hW hv => by
    have := alike_tn (T3_v15.out.tn.up hW) hv.tn (by unfold Few; simp) (by unfold Few; simp)
    rw [decide_eq_true ⟨rfl, rfl⟩] at this
    exact this
  have HS2 : Hid (∀ W v, Below W7.heap.size W7 W → Tn [2] [6, 15] v W → Calls Tryd.prog 16 #[.agg #[.slice ps4 ns4 cs4, .slice pt4 nt4 ct4], v] W fun e w' => e = .returned (.bool true) ∧ Below W.heap.size W w') := fun W v hW hv => by
    have := alike_tn (T4_v15.out.up hW) hv (by unfold Few; simp) (by unfold Few; simp)
    rw [decide_eq_true ⟨rfl, rfl⟩] at this
    exact this
  have HD1 : Hid (∀ W u v, Below W7.heap.size W7 W → LitN [-9223372036854775808, -9223372036854775808] u W → LitN [-9223372036854775808, -9223372036854775808] v W → Calls Tryd.prog 17 #[u, v] W fun e w' => e = .returned (.int .i64 9223372036854775807) ∧ Below W.heap.size W w') := fun W u v hW hu hv => by
    have := dot_lit hu hv (RI_kern (by decide +kernel)) (RI_kern (by decide +kernel)) (by simp) (Hid.up_tz hT (bstep HB_W7.out hW))
    rw [kn8] at this
    exact this
  have HD2 : Hid (∀ W u v, Below W7.heap.size W7 W → LitN [1, 1] u W → LitN [2147483648, 2147483648] v W → Calls Tryd.prog 17 #[u, v] W fun e w' => e = .returned (.int .i64 1) ∧ Below W.heap.size W w') := fun W u v hW hu hv => by
    have := dot_lit hu hv (RI_kern (by decide +kernel)) (RI_kern (by decide +kernel)) (by simp) (Hid.up_tz hT (bstep HB_W7.out hW))
    rw [kn9] at this
    exact this
  obtain ⟨x10, x11, _, _⟩ := X1_v15.out
  have x1z := cell_lt x10
  obtain ⟨x30, x31, _, _⟩ := X3_v15.out
  have x3z := cell_lt x30
  obtain ⟨x40, x41, _, _⟩ := X4_v15.out
  have x4z := cell_lt x40
  clear T1_v15 X1_v15 T2_v15 X2_v15 T3_v15 X3_v15 T4_v15 X4_v15 T5_v15 X5_v15 T6_v15 T7_v15 X7_v15
  refine rel [⟨8, 66, LitN [1, 4, 2, 5, 3, 6]⟩, ⟨9, 67, TnC [3, 2] [1, 4, 2, 5, 3, 6]⟩, ⟨18, 76, LitN [2]⟩, ⟨19, 77, LitN [6, 15]⟩, ⟨20, 78, Tn [2] [6, 15]⟩, ⟨48, 106, LitN [-9223372036854775808, -9223372036854775808]⟩, ⟨49, 107, LitN [-9223372036854775808, -9223372036854775808]⟩, ⟨54, 112, LitN [1, 1]⟩, ⟨55, 113, LitN [2147483648, 2147483648]⟩] 59 117 (by kernel_rfl) rfl rfl (by kernel_rfl) (by rfl) ?_ ?_
  · intro e he v W W' h hb
    simp only [List.mem_cons, List.not_mem_nil, or_false] at he
    rcases he with rfl | rfl | rfl | rfl | rfl | rfl | rfl | rfl | rfl
    · exact LitN.up h hb
    · exact TnC.up h hb
    · exact LitN.up h hb
    · exact LitN.up h hb
    · exact Tn.up h hb
    · exact LitN.up h hb
    · exact LitN.up h hb
    · exact LitN.up h hb
    · exact LitN.up h hb
  apply Exists.intro
  refine ⟨fun x => ?_, ?_, ?_⟩
  · simp only [List.take_succ_cons, List.take_zero]
    refine relQuiet rfl rfl ?_
    apply Exists.intro
    refine ⟨fun F hF hf K hK => ?_, ?_⟩
    · have hFc := hF.cell
      have hFf := hF.frozen
      go_big_quiet_op
      first | exact hK | (apply Exists.intro; refine ⟨fun _ => ?_, ?_⟩; (· fail); exact hK)
    (try simp only [Act.put, List.setIfInBounds_toArray, List.set_cons_zero, List.set_cons_succ])
    refine relQuiet rfl rfl ?_
    apply Exists.intro
    refine ⟨fun F hF hf K hK => ?_, ?_⟩
    · have hFc := hF.cell
      have hFf := hF.frozen
      go_big_quiet_op
      first | exact hK | (apply Exists.intro; refine ⟨fun _ => ?_, ?_⟩; (· fail); exact hK)
    (try simp only [Act.put, List.setIfInBounds_toArray, List.set_cons_zero, List.set_cons_succ])
    refine relQuiet rfl rfl ?_
    apply Exists.intro
    refine ⟨fun F hF hf K hK => ?_, ?_⟩
    · have hFc := hF.cell
      have hFf := hF.frozen
      go_big_quiet_op
      first | exact hK | (apply Exists.intro; refine ⟨fun _ => ?_, ?_⟩; (· fail); exact hK)
    (try simp only [Act.put, List.setIfInBounds_toArray, List.set_cons_zero, List.set_cons_succ])
    refine relQuiet rfl rfl ?_
    apply Exists.intro
    refine ⟨fun F hF hf K hK => ?_, ?_⟩
    · have hFc := hF.cell
      have hFf := hF.frozen
      go_big_quiet_op
      first | exact hK | (apply Exists.intro; refine ⟨fun _ => ?_, ?_⟩; (· fail); exact hK)
    (try simp only [Act.put, List.setIfInBounds_toArray, List.set_cons_zero, List.set_cons_succ])
    refine relQuiet rfl rfl ?_
    apply Exists.intro
    refine ⟨fun F hF hf K hK => ?_, ?_⟩
    · have hFc := hF.cell
      have hFf := hF.frozen
      go_big_quiet_op
      first | exact hK | (apply Exists.intro; refine ⟨fun _ => ?_, ?_⟩; (· fail); exact hK)
    (try simp only [Act.put, List.setIfInBounds_toArray, List.set_cons_zero, List.set_cons_succ])
    refine relQuiet rfl rfl ?_
    apply Exists.intro
    refine ⟨fun F hF hf K hK => ?_, ?_⟩
    · have hFc := hF.cell
      have hFf := hF.frozen
      go_big_quiet_op
      first | exact hK | (apply Exists.intro; refine ⟨fun _ => ?_, ?_⟩; (· fail); exact hK)
    (try simp only [Act.put, List.setIfInBounds_toArray, List.set_cons_zero, List.set_cons_succ])
    refine relQuiet rfl rfl ?_
    apply Exists.intro
    refine ⟨fun F hF hf K hK => ?_, ?_⟩
    · have hFc := hF.cell
      have hFf := hF.frozen
      go_big_quiet_op
      first | exact hK | (apply Exists.intro; refine ⟨fun _ => ?_, ?_⟩; (· fail); exact hK)
    (try simp only [Act.put, List.setIfInBounds_toArray, List.set_cons_zero, List.set_cons_succ])
    refine relQuiet rfl rfl ?_
    apply Exists.intro
    refine ⟨fun F hF hf K hK => ?_, ?_⟩
    · have hFc := hF.cell
      have hFf := hF.frozen
      go_big_quiet_op
      first | exact hK | (apply Exists.intro; refine ⟨fun _ => ?_, ?_⟩; (· fail); exact hK)
    (try simp only [Act.put, List.setIfInBounds_toArray, List.set_cons_zero, List.set_cons_succ])
    refine relTold rfl rfl ?_ ?_
    · intro F hF hf d
      have hFc := hF.cell
      have hFf := hF.frozen
      simp [yieldsR, yieldsUpon, go_sem]
      exact ⟨⟨(F d).heap.size, rfl, nums_lit (k := .i64) (F d) [1, 4, 2, 5, 3, 6] 6 (0, 0) rfl⟩, up_alloc _ _⟩
    (try simp only [Act.put, List.setIfInBounds_toArray, List.set_cons_zero, List.set_cons_succ])
    refine relTold rfl rfl ?_ ?_
    · intro F hF hf d
      have hFc := hF.cell
      have hFf := hF.frozen
      have h9 := hf _ List.mem_cons_self (by rfl) d
      simp [yieldsR, yieldsUpon, go_sem]
      refine (table_lit 3 2 _ _ (by omega) (by simp) rfl (F d) h9).mono ?_
      rintro e' w8 ⟨v8, rfl, h8, hb8⟩
      exact ⟨_, rfl, h8, hb8⟩
    (try simp only [Act.put, List.setIfInBounds_toArray, List.set_cons_zero, List.set_cons_succ])
    refine relQuiet rfl rfl ?_
    apply Exists.intro
    refine ⟨fun F hF hf K hK => ?_, ?_⟩
    · have hFc := hF.cell
      have hFf := hF.frozen
      go_big_quiet_op
      first | exact hK | (apply Exists.intro; refine ⟨fun _ => ?_, ?_⟩; (· exact hF.call (HS1.out _ _ (hF.below _) (hf _ (List.mem_cons_of_mem _ List.mem_cons_self) (by rfl) _))); exact hK)
    (try simp only [Act.put, List.setIfInBounds_toArray, List.set_cons_zero, List.set_cons_succ])
    refine relQuiet rfl rfl ?_
    apply Exists.intro
    refine ⟨fun F hF hf K hK => ?_, ?_⟩
    · have hFc := hF.cell
      have hFf := hF.frozen
      go_big_quiet_op
      first | exact hK | (apply Exists.intro; refine ⟨fun _ => ?_, ?_⟩; (· fail); exact hK)
    (try simp only [Act.put, List.setIfInBounds_toArray, List.set_cons_zero, List.set_cons_succ])
    refine relQuiet rfl rfl ?_
    apply Exists.intro
    refine ⟨fun F hF hf K hK => ?_, ?_⟩
    · have hFc := hF.cell
      have hFf := hF.frozen
      go_big_quiet_op
      first | exact hK | (apply Exists.intro; refine ⟨fun _ => ?_, ?_⟩; (· fail); exact hK)
    (try simp only [Act.put, List.setIfInBounds_toArray, List.set_cons_zero, List.set_cons_succ])
    refine relQuiet rfl rfl ?_
    apply Exists.intro
    refine ⟨fun F hF hf K hK => ?_, ?_⟩
    · have hFc := hF.cell
      have hFf := hF.frozen
      go_big_quiet_op
      first | exact hK | (apply Exists.intro; refine ⟨fun _ => ?_, ?_⟩; (· fail); exact hK)
    (try simp only [Act.put, List.setIfInBounds_toArray, List.set_cons_zero, List.set_cons_succ])
    refine relQuiet rfl rfl ?_
    apply Exists.intro
    refine ⟨fun F hF hf K hK => ?_, ?_⟩
    · have hFc := hF.cell
      have hFf := hF.frozen
      go_big_quiet_op
      first | exact hK | (apply Exists.intro; refine ⟨fun _ => ?_, ?_⟩; (· fail); exact hK)
    (try simp only [Act.put, List.setIfInBounds_toArray, List.set_cons_zero, List.set_cons_succ])
    refine relQuiet rfl rfl ?_
    apply Exists.intro
    refine ⟨fun F hF hf K hK => ?_, ?_⟩
    · have hFc := hF.cell
      have hFf := hF.frozen
      go_big_quiet_op
      first | exact hK | (apply Exists.intro; refine ⟨fun _ => ?_, ?_⟩; (· fail); exact hK)
    (try simp only [Act.put, List.setIfInBounds_toArray, List.set_cons_zero, List.set_cons_succ])
    refine relQuiet rfl rfl ?_
    apply Exists.intro
    refine ⟨fun F hF hf K hK => ?_, ?_⟩
    · have hFc := hF.cell
      have hFf := hF.frozen
      go_big_quiet_op
      first | exact hK | (apply Exists.intro; refine ⟨fun _ => ?_, ?_⟩; (· fail); exact hK)
    (try simp only [Act.put, List.setIfInBounds_toArray, List.set_cons_zero, List.set_cons_succ])
    refine relQuiet rfl rfl ?_
    apply Exists.intro
    refine ⟨fun F hF hf K hK => ?_, ?_⟩
    · have hFc := hF.cell
      have hFf := hF.frozen
      go_big_quiet_op
      first | exact hK | (apply Exists.intro; refine ⟨fun _ => ?_, ?_⟩; (· fail); exact hK)
    (try simp only [Act.put, List.setIfInBounds_toArray, List.set_cons_zero, List.set_cons_succ])
    refine relTold rfl rfl ?_ ?_
    · intro F hF hf d
      have hFc := hF.cell
      have hFf := hF.frozen
      simp [yieldsR, yieldsUpon, go_sem]
      exact ⟨⟨(F d).heap.size, rfl, nums_lit (k := .i64) (F d) [2] 1 (0, 0) rfl⟩, up_alloc _ _⟩
    (try simp only [Act.put, List.setIfInBounds_toArray, List.set_cons_zero, List.set_cons_succ])
    refine relTold rfl rfl ?_ ?_
    · intro F hF hf d
      have hFc := hF.cell
      have hFf := hF.frozen
      simp [yieldsR, yieldsUpon, go_sem]
      exact ⟨⟨(F d).heap.size, rfl, nums_lit (k := .i64) (F d) [6, 15] 2 (0, 0) rfl⟩, up_alloc _ _⟩
    (try simp only [Act.put, List.setIfInBounds_toArray, List.set_cons_zero, List.set_cons_succ])
    refine relTold rfl rfl ?_ ?_
    · intro F hF hf d
      have hFc := hF.cell
      have hFf := hF.frozen
      have h3 := hf _ (List.mem_cons_of_mem _ (List.mem_cons_of_mem _ List.mem_cons_self)) (by rfl) d
      have h7 := hf _ (List.mem_cons_of_mem _ (List.mem_cons_of_mem _ (List.mem_cons_of_mem _ List.mem_cons_self))) (by rfl) d
      obtain ⟨g3, e3, n3⟩ := h3
      obtain ⟨g7, e7, n7⟩ := h7
      simp only [] at e3 e7 n3 n7
      rw [e3] at n3
      rw [e7] at n7
      simp [yieldsR, yieldsUpon, go_sem, e3, e7]
      exact ⟨⟨_, _, _, _, _, _, rfl, n3, n7⟩, Below.refl _ _⟩
    (try simp only [Act.put, List.setIfInBounds_toArray, List.set_cons_zero, List.set_cons_succ])
    refine relQuiet rfl rfl ?_
    apply Exists.intro
    refine ⟨fun F hF hf K hK => ?_, ?_⟩
    · have hFc := hF.cell
      have hFf := hF.frozen
      go_big_quiet_op
      first | exact hK | (apply Exists.intro; refine ⟨fun _ => ?_, ?_⟩; (· exact hF.call (HS2.out _ _ (hF.below _) (hf _ (List.mem_cons_of_mem _ (List.mem_cons_of_mem _ (List.mem_cons_of_mem _ (List.mem_cons_of_mem _ List.mem_cons_self)))) (by rfl) _))); exact hK)
    (try simp only [Act.put, List.setIfInBounds_toArray, List.set_cons_zero, List.set_cons_succ])
    refine relQuiet rfl rfl ?_
    apply Exists.intro
    refine ⟨fun F hF hf K hK => ?_, ?_⟩
    · have hFc := hF.cell
      have hFf := hF.frozen
      go_big_quiet_op
      first | exact hK | (apply Exists.intro; refine ⟨fun _ => ?_, ?_⟩; (· fail); exact hK)
    (try simp only [Act.put, List.setIfInBounds_toArray, List.set_cons_zero, List.set_cons_succ])
    refine relQuiet rfl rfl ?_
    apply Exists.intro
    refine ⟨fun F hF hf K hK => ?_, ?_⟩
    · have hFc := hF.cell
      have hFf := hF.frozen
      go_big_quiet_op
      first | exact hK | (apply Exists.intro; refine ⟨fun _ => ?_, ?_⟩; (· fail); exact hK)
    (try simp only [Act.put, List.setIfInBounds_toArray, List.set_cons_zero, List.set_cons_succ])
    refine relQuiet rfl rfl ?_
    apply Exists.intro
    refine ⟨fun F hF hf K hK => ?_, ?_⟩
    · have hFc := hF.cell
      have hFf := hF.frozen
      go_big_quiet_op
      first | exact hK | (apply Exists.intro; refine ⟨fun _ => ?_, ?_⟩; (· fail); exact hK)
    (try simp only [Act.put, List.setIfInBounds_toArray, List.set_cons_zero, List.set_cons_succ])
    refine relQuiet rfl rfl ?_
    apply Exists.intro
    refine ⟨fun F hF hf K hK => ?_, ?_⟩
    · have hFc := hF.cell
      have hFf := hF.frozen
      go_big_quiet_op
      first | exact hK | (apply Exists.intro; refine ⟨fun _ => ?_, ?_⟩; (· fail); exact hK)
    (try simp only [Act.put, List.setIfInBounds_toArray, List.set_cons_zero, List.set_cons_succ])
    refine relQuiet rfl rfl ?_
    apply Exists.intro
    refine ⟨fun F hF hf K hK => ?_, ?_⟩
    · have hFc := hF.cell
      have hFf := hF.frozen
      go_big_quiet_op
      first | exact hK | (apply Exists.intro; refine ⟨fun _ => ?_, ?_⟩; (· fail); exact hK)
    (try simp only [Act.put, List.setIfInBounds_toArray, List.set_cons_zero, List.set_cons_succ])
    refine relQuiet rfl rfl ?_
    apply Exists.intro
    refine ⟨fun F hF hf K hK => ?_, ?_⟩
    · have hFc := hF.cell
      have hFf := hF.frozen
      go_big_quiet_op
      first | exact hK | (apply Exists.intro; refine ⟨fun _ => ?_, ?_⟩; (· fail); exact hK)
    (try simp only [Act.put, List.setIfInBounds_toArray, List.set_cons_zero, List.set_cons_succ])
    refine relQuiet rfl rfl ?_
    apply Exists.intro
    refine ⟨fun F hF hf K hK => ?_, ?_⟩
    · have hFc := hF.cell
      have hFf := hF.frozen
      go_big_quiet_op
      first | exact hK | (apply Exists.intro; refine ⟨fun _ => ?_, ?_⟩; (· fail); exact hK)
    (try simp only [Act.put, List.setIfInBounds_toArray, List.set_cons_zero, List.set_cons_succ])
    refine relQuiet rfl rfl ?_
    apply Exists.intro
    refine ⟨fun F hF hf K hK => ?_, ?_⟩
    · have hFc := hF.cell
      have hFf := hF.frozen
      go_big_quiet_op
      first | exact hK | (apply Exists.intro; refine ⟨fun _ => ?_, ?_⟩; (· fail); exact hK)
    (try simp only [Act.put, List.setIfInBounds_toArray, List.set_cons_zero, List.set_cons_succ])
    refine relQuiet rfl rfl ?_
    apply Exists.intro
    refine ⟨fun F hF hf K hK => ?_, ?_⟩
    · have hFc := hF.cell
      have hFf := hF.frozen
      go_big_quiet_op
      first | exact hK | (apply Exists.intro; refine ⟨fun _ => ?_, ?_⟩; (· fail); exact hK)
    (try simp only [Act.put, List.setIfInBounds_toArray, List.set_cons_zero, List.set_cons_succ])
    refine relQuiet rfl rfl ?_
    apply Exists.intro
    refine ⟨fun F hF hf K hK => ?_, ?_⟩
    · have hFc := hF.cell
      have hFf := hF.frozen
      go_big_quiet_op
      first | exact hK | (apply Exists.intro; refine ⟨fun _ => ?_, ?_⟩; (· fail); exact hK)
    (try simp only [Act.put, List.setIfInBounds_toArray, List.set_cons_zero, List.set_cons_succ])
    refine relQuiet rfl rfl ?_
    apply Exists.intro
    refine ⟨fun F hF hf K hK => ?_, ?_⟩
    · have hFc := hF.cell
      have hFf := hF.frozen
      go_big_quiet_op
      first | exact hK | (apply Exists.intro; refine ⟨fun _ => ?_, ?_⟩; (· fail); exact hK)
    (try simp only [Act.put, List.setIfInBounds_toArray, List.set_cons_zero, List.set_cons_succ])
    refine relQuiet rfl rfl ?_
    apply Exists.intro
    refine ⟨fun F hF hf K hK => ?_, ?_⟩
    · have hFc := hF.cell
      have hFf := hF.frozen
      go_big_quiet_op
      first | exact hK | (apply Exists.intro; refine ⟨fun _ => ?_, ?_⟩; (· fail); exact hK)
    (try simp only [Act.put, List.setIfInBounds_toArray, List.set_cons_zero, List.set_cons_succ])
    refine relQuiet rfl rfl ?_
    apply Exists.intro
    refine ⟨fun F hF hf K hK => ?_, ?_⟩
    · have hFc := hF.cell
      have hFf := hF.frozen
      go_big_quiet_op
      first | exact hK | (apply Exists.intro; refine ⟨fun _ => ?_, ?_⟩; (· fail); exact hK)
    (try simp only [Act.put, List.setIfInBounds_toArray, List.set_cons_zero, List.set_cons_succ])
    refine relQuiet rfl rfl ?_
    apply Exists.intro
    refine ⟨fun F hF hf K hK => ?_, ?_⟩
    · have hFc := hF.cell
      have hFf := hF.frozen
      go_big_quiet_op
      first | exact hK | (apply Exists.intro; refine ⟨fun _ => ?_, ?_⟩; (· fail); exact hK)
    (try simp only [Act.put, List.setIfInBounds_toArray, List.set_cons_zero, List.set_cons_succ])
    refine relQuiet rfl rfl ?_
    apply Exists.intro
    refine ⟨fun F hF hf K hK => ?_, ?_⟩
    · have hFc := hF.cell
      have hFf := hF.frozen
      go_big_quiet_op
      first | exact hK | (apply Exists.intro; refine ⟨fun _ => ?_, ?_⟩; (· fail); exact hK)
    (try simp only [Act.put, List.setIfInBounds_toArray, List.set_cons_zero, List.set_cons_succ])
    refine relQuiet rfl rfl ?_
    apply Exists.intro
    refine ⟨fun F hF hf K hK => ?_, ?_⟩
    · have hFc := hF.cell
      have hFf := hF.frozen
      go_big_quiet_op
      first | exact hK | (apply Exists.intro; refine ⟨fun _ => ?_, ?_⟩; (· fail); exact hK)
    (try simp only [Act.put, List.setIfInBounds_toArray, List.set_cons_zero, List.set_cons_succ])
    refine relQuiet rfl rfl ?_
    apply Exists.intro
    refine ⟨fun F hF hf K hK => ?_, ?_⟩
    · have hFc := hF.cell
      have hFf := hF.frozen
      go_big_quiet_op
      first | exact hK | (apply Exists.intro; refine ⟨fun _ => ?_, ?_⟩; (· fail); exact hK)
    (try simp only [Act.put, List.setIfInBounds_toArray, List.set_cons_zero, List.set_cons_succ])
    refine relQuiet rfl rfl ?_
    apply Exists.intro
    refine ⟨fun F hF hf K hK => ?_, ?_⟩
    · have hFc := hF.cell
      have hFf := hF.frozen
      go_big_quiet_op
      first | exact hK | (apply Exists.intro; refine ⟨fun _ => ?_, ?_⟩; (· fail); exact hK)
    (try simp only [Act.put, List.setIfInBounds_toArray, List.set_cons_zero, List.set_cons_succ])
    refine relQuiet rfl rfl ?_
    apply Exists.intro
    refine ⟨fun F hF hf K hK => ?_, ?_⟩
    · have hFc := hF.cell
      have hFf := hF.frozen
      go_big_quiet_op
      first | exact hK | (apply Exists.intro; refine ⟨fun _ => ?_, ?_⟩; (· fail); exact hK)
    (try simp only [Act.put, List.setIfInBounds_toArray, List.set_cons_zero, List.set_cons_succ])
    refine relQuiet rfl rfl ?_
    apply Exists.intro
    refine ⟨fun F hF hf K hK => ?_, ?_⟩
    · have hFc := hF.cell
      have hFf := hF.frozen
      go_big_quiet_op
      first | exact hK | (apply Exists.intro; refine ⟨fun _ => ?_, ?_⟩; (· fail); exact hK)
    (try simp only [Act.put, List.setIfInBounds_toArray, List.set_cons_zero, List.set_cons_succ])
    refine relQuiet rfl rfl ?_
    apply Exists.intro
    refine ⟨fun F hF hf K hK => ?_, ?_⟩
    · have hFc := hF.cell
      have hFf := hF.frozen
      go_big_quiet_op
      first | exact hK | (apply Exists.intro; refine ⟨fun _ => ?_, ?_⟩; (· fail); exact hK)
    (try simp only [Act.put, List.setIfInBounds_toArray, List.set_cons_zero, List.set_cons_succ])
    refine relQuiet rfl rfl ?_
    apply Exists.intro
    refine ⟨fun F hF hf K hK => ?_, ?_⟩
    · have hFc := hF.cell
      have hFf := hF.frozen
      go_big_quiet_op
      first | exact hK | (apply Exists.intro; refine ⟨fun _ => ?_, ?_⟩; (· fail); exact hK)
    (try simp only [Act.put, List.setIfInBounds_toArray, List.set_cons_zero, List.set_cons_succ])
    refine relQuiet rfl rfl ?_
    apply Exists.intro
    refine ⟨fun F hF hf K hK => ?_, ?_⟩
    · have hFc := hF.cell
      have hFf := hF.frozen
      go_big_quiet_op
      first | exact hK | (apply Exists.intro; refine ⟨fun _ => ?_, ?_⟩; (· fail); exact hK)
    (try simp only [Act.put, List.setIfInBounds_toArray, List.set_cons_zero, List.set_cons_succ])
    refine relQuiet rfl rfl ?_
    apply Exists.intro
    refine ⟨fun F hF hf K hK => ?_, ?_⟩
    · have hFc := hF.cell
      have hFf := hF.frozen
      go_big_quiet_op
      first | exact hK | (apply Exists.intro; refine ⟨fun _ => ?_, ?_⟩; (· fail); exact hK)
    (try simp only [Act.put, List.setIfInBounds_toArray, List.set_cons_zero, List.set_cons_succ])
    refine relQuiet rfl rfl ?_
    apply Exists.intro
    refine ⟨fun F hF hf K hK => ?_, ?_⟩
    · have hFc := hF.cell
      have hFf := hF.frozen
      go_big_quiet_op
      first | exact hK | (apply Exists.intro; refine ⟨fun _ => ?_, ?_⟩; (· fail); exact hK)
    (try simp only [Act.put, List.setIfInBounds_toArray, List.set_cons_zero, List.set_cons_succ])
    refine relQuiet rfl rfl ?_
    apply Exists.intro
    refine ⟨fun F hF hf K hK => ?_, ?_⟩
    · have hFc := hF.cell
      have hFf := hF.frozen
      go_big_quiet_op
      first | exact hK | (apply Exists.intro; refine ⟨fun _ => ?_, ?_⟩; (· fail); exact hK)
    (try simp only [Act.put, List.setIfInBounds_toArray, List.set_cons_zero, List.set_cons_succ])
    refine relTold rfl rfl ?_ ?_
    · intro F hF hf d
      have hFc := hF.cell
      have hFf := hF.frozen
      simp [yieldsR, yieldsUpon, go_sem]
      exact ⟨⟨(F d).heap.size, rfl, nums_lit (k := .i64) (F d) [-9223372036854775808, -9223372036854775808] 2 (0, 0) rfl⟩, up_alloc _ _⟩
    (try simp only [Act.put, List.setIfInBounds_toArray, List.set_cons_zero, List.set_cons_succ])
    refine relTold rfl rfl ?_ ?_
    · intro F hF hf d
      have hFc := hF.cell
      have hFf := hF.frozen
      simp [yieldsR, yieldsUpon, go_sem]
      exact ⟨⟨(F d).heap.size, rfl, nums_lit (k := .i64) (F d) [-9223372036854775808, -9223372036854775808] 2 (0, 0) rfl⟩, up_alloc _ _⟩
    (try simp only [Act.put, List.setIfInBounds_toArray, List.set_cons_zero, List.set_cons_succ])
    refine relQuiet rfl rfl ?_
    apply Exists.intro
    refine ⟨fun F hF hf K hK => ?_, ?_⟩
    · have hFc := hF.cell
      have hFf := hF.frozen
      go_big_quiet_op
      first | exact hK | (apply Exists.intro; refine ⟨fun _ => ?_, ?_⟩; (· exact hF.call (HD1.out _ _ _ (hF.below _) (hf _ (List.mem_cons_of_mem _ (List.mem_cons_of_mem _ (List.mem_cons_of_mem _ (List.mem_cons_of_mem _ (List.mem_cons_of_mem _ List.mem_cons_self))))) (by rfl) _) (hf _ (List.mem_cons_of_mem _ (List.mem_cons_of_mem _ (List.mem_cons_of_mem _ (List.mem_cons_of_mem _ (List.mem_cons_of_mem _ (List.mem_cons_of_mem _ List.mem_cons_self)))))) (by rfl) _))); exact hK)
    (try simp only [Act.put, List.setIfInBounds_toArray, List.set_cons_zero, List.set_cons_succ])
    refine relQuiet rfl rfl ?_
    apply Exists.intro
    refine ⟨fun F hF hf K hK => ?_, ?_⟩
    · have hFc := hF.cell
      have hFf := hF.frozen
      go_big_quiet_op
      first | exact hK | (apply Exists.intro; refine ⟨fun _ => ?_, ?_⟩; (· fail); exact hK)
    (try simp only [Act.put, List.setIfInBounds_toArray, List.set_cons_zero, List.set_cons_succ])
    refine relQuiet rfl rfl ?_
    apply Exists.intro
    refine ⟨fun F hF hf K hK => ?_, ?_⟩
    · have hFc := hF.cell
      have hFf := hF.frozen
      go_big_quiet_op
      first | exact hK | (apply Exists.intro; refine ⟨fun _ => ?_, ?_⟩; (· fail); exact hK)
    (try simp only [Act.put, List.setIfInBounds_toArray, List.set_cons_zero, List.set_cons_succ])
    refine relQuiet rfl rfl ?_
    apply Exists.intro
    refine ⟨fun F hF hf K hK => ?_, ?_⟩
    · have hFc := hF.cell
      have hFf := hF.frozen
      go_big_quiet_op
      first | exact hK | (apply Exists.intro; refine ⟨fun _ => ?_, ?_⟩; (· fail); exact hK)
    (try simp only [Act.put, List.setIfInBounds_toArray, List.set_cons_zero, List.set_cons_succ])
    refine relTold rfl rfl ?_ ?_
    · intro F hF hf d
      have hFc := hF.cell
      have hFf := hF.frozen
      simp [yieldsR, yieldsUpon, go_sem]
      exact ⟨⟨(F d).heap.size, rfl, nums_lit (k := .i64) (F d) [1, 1] 2 (0, 0) rfl⟩, up_alloc _ _⟩
    (try simp only [Act.put, List.setIfInBounds_toArray, List.set_cons_zero, List.set_cons_succ])
    refine relTold rfl rfl ?_ ?_
    · intro F hF hf d
      have hFc := hF.cell
      have hFf := hF.frozen
      simp [yieldsR, yieldsUpon, go_sem]
      exact ⟨⟨(F d).heap.size, rfl, nums_lit (k := .i64) (F d) [2147483648, 2147483648] 2 (0, 0) rfl⟩, up_alloc _ _⟩
    (try simp only [Act.put, List.setIfInBounds_toArray, List.set_cons_zero, List.set_cons_succ])
    refine relQuiet rfl rfl ?_
    apply Exists.intro
    refine ⟨fun F hF hf K hK => ?_, ?_⟩
    · have hFc := hF.cell
      have hFf := hF.frozen
      go_big_quiet_op
      first | exact hK | (apply Exists.intro; refine ⟨fun _ => ?_, ?_⟩; (· exact hF.call (HD2.out _ _ _ (hF.below _) (hf _ (List.mem_cons_of_mem _ (List.mem_cons_of_mem _ (List.mem_cons_of_mem _ (List.mem_cons_of_mem _ (List.mem_cons_of_mem _ (List.mem_cons_of_mem _ (List.mem_cons_of_mem _ List.mem_cons_self))))))) (by rfl) _) (hf _ (List.mem_cons_of_mem _ (List.mem_cons_of_mem _ (List.mem_cons_of_mem _ (List.mem_cons_of_mem _ (List.mem_cons_of_mem _ (List.mem_cons_of_mem _ (List.mem_cons_of_mem _ (List.mem_cons_of_mem _ List.mem_cons_self)))))))) (by rfl) _))); exact hK)
    (try simp only [Act.put, List.setIfInBounds_toArray, List.set_cons_zero, List.set_cons_succ])
    refine relQuiet rfl rfl ?_
    apply Exists.intro
    refine ⟨fun F hF hf K hK => ?_, ?_⟩
    · have hFc := hF.cell
      have hFf := hF.frozen
      go_big_quiet_op
      first | exact hK | (apply Exists.intro; refine ⟨fun _ => ?_, ?_⟩; (· fail); exact hK)
    (try simp only [Act.put, List.setIfInBounds_toArray, List.set_cons_zero, List.set_cons_succ])
    refine relQuiet rfl rfl ?_
    apply Exists.intro
    refine ⟨fun F hF hf K hK => ?_, ?_⟩
    · have hFc := hF.cell
      have hFf := hF.frozen
      go_big_quiet_op
      first | exact hK | (apply Exists.intro; refine ⟨fun _ => ?_, ?_⟩; (· fail); exact hK)
    (try simp only [Act.put, List.setIfInBounds_toArray, List.set_cons_zero, List.set_cons_succ])
    refine relEnd ?_
    exact rfl
  · intro x
    simp only [putsK, List.foldl_cons, List.foldl_nil, Act.put, List.setIfInBounds_toArray, List.set_cons_zero, List.set_cons_succ]
  · intro w9 xs hB9 hf
    simp only [List.drop_succ_cons, List.drop_zero]
    have HB9 : Hid (Below w.heap.size w w9) := bstep HB_W7.out hB9
    clear hf hB9
    go_wp2
    go_ret
    exact ⟨rfl, HB9.out⟩
end Go.Proofs.YthcfeiddbffcfaaDoor.Wd
