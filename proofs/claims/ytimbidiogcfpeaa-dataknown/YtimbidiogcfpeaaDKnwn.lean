/- DataKnown: what chapter 16 says of what is none. -/
import Derived.Test.YtimbidiogcfpeaaDaW
namespace Go.Proofs.Ytimbidiogcfpeaa.Wd
open Go.RowKit Fx
set_option linter.unusedVariables false
set_option linter.unusedSimpArgs false
set_option maxRecDepth 8000
set_option maxHeartbeats 8000000
theorem kn16_a : batE 0 1 0 = 1 ∧ batE 5 6 0 = 1 ∧ batE 5 1 (-1) = 1 := by decide +kernel
theorem kn16_b : shE [1] 2 = 1 ∧ shE [3, 1] 1 = 1 := by decide +kernel
theorem kn16_c : batE 3 3 4611686018427387904 = 0 ∧ (batV 3 3 4611686018427387904).length = 3 := by decide +kernel
theorem kn16_d : ¬ goodM [] ∧ ¬ goodM [16] ∧ ¬ goodM [1, 1] := by decide +kernel
theorem dknown_walk (w : World) : Calls Try.prog 3 #[] w fun e w' => e = .returned (.bool true) ∧ Below w.heap.size w w' := by
  haveI : Nonempty World := ⟨w⟩
  go_enter Try.func3, Try.ntmps3
  go_wp2_with fail
  refine (awake16_any w).mono ?_
  rintro e w1 ⟨rfl, hB⟩
  have H1 : Hid (Below w.heap.size w w1) := hB
  clear hB
  have cc := dbatch_any 0 1 0 (by omega) (by omega) (by omega) w1
  rw [kn16_a.1] at cc
  go_wp2_with fail
  refine cc.mono ?_
  rintro e w2 ⟨v2, rfl, hv, hB⟩
  have H2 : Hid (Below w.heap.size w w2) := bstep H1.out hB
  clear hv hB cc H1
  have cc := dbatch_any 5 6 0 (by omega) (by omega) (by omega) w2
  rw [kn16_a.2.1] at cc
  go_wp2_with fail
  refine cc.mono ?_
  rintro e w3 ⟨v3, rfl, hv, hB⟩
  have H3 : Hid (Below w.heap.size w w3) := bstep H2.out hB
  clear hv hB cc H2
  have cc := dbatch_any 5 1 (-1) (by omega) (by omega) (by omega) w3
  rw [kn16_a.2.2] at cc
  go_wp2_with fail
  refine cc.mono ?_
  rintro e w4 ⟨v4, rfl, hv, hB⟩
  have H4 : Hid (Below w.heap.size w w4) := bstep H3.out hB
  clear hv hB cc H3
  go_wp2_with fail
  generalize hK4 : World.alloc _ _ = K4
  have L4 : Hid (Below w.heap.size w K4 ∧ Nums .i64 K4 (.slice (some ⟨w4.heap.size, 0, none⟩) 1 1) [1]) := by
    rw [← hK4]
    exact ⟨bstep H4.out (up_alloc w4 _), nums_lit (k := .i64) w4 [1] 1 (0, 0) rfl⟩
  clear hK4 H4
  have cc := dshard_any none (some ⟨w4.heap.size, 0, none⟩) 0 0 1 1 [] [1] 2 (by omega) (by omega) K4 (.inl ⟨rfl, rfl⟩) L4.out.2
  rw [kn16_b.1] at cc
  refine cc.mono ?_
  rintro e w5 ⟨v5, rfl, hv, hB⟩
  have H5 : Hid (Below w.heap.size w w5) := bstep L4.out.1 hB
  clear hv hB cc L4
  go_wp2_with fail
  generalize hK5 : World.alloc _ _ = K5
  have L5 : Hid (Below w.heap.size w K5 ∧ Nums .i64 K5 (.slice (some ⟨w5.heap.size, 0, none⟩) 2 2) [3, 1]) := by
    rw [← hK5]
    exact ⟨bstep H5.out (up_alloc w5 _), nums_lit (k := .i64) w5 [3, 1] 2 (0, 0) rfl⟩
  clear hK5 H5
  have cc := dshard_any none (some ⟨w5.heap.size, 0, none⟩) 0 0 2 2 [] [3, 1] 1 (by omega) (by omega) K5 (.inl ⟨rfl, rfl⟩) L5.out.2
  rw [kn16_b.2] at cc
  refine cc.mono ?_
  rintro e w6 ⟨v6, rfl, hv, hB⟩
  have H6 : Hid (Below w.heap.size w w6) := bstep L5.out.1 hB
  clear hv hB cc L5
  have cc := dbatch_any 3 3 4611686018427387904 (by omega) (by omega) (by omega) w6
  rw [kn16_c.1] at cc
  go_wp2_with fail
  refine cc.mono ?_
  rintro e w7 ⟨v, rfl, hv, hB⟩
  replace hv := hv.nums
  obtain ⟨p, n, c, rfl, _⟩ := hv.lst
  obtain rfl : n = 3 := by rw [← dnums_len hv]; exact kn16_c.2
  have H7 : Hid (Below w.heap.size w w7) := bstep H6.out hB
  clear hv hB cc H6
  go_wp2_with fail
  have cc := dgood_any none 0 0 [] (by omega) w7 (.inl ⟨rfl, rfl⟩)
  rw [decide_eq_false kn16_d.1] at cc
  refine cc.mono ?_
  rintro e w8 ⟨rfl, hB⟩
  have H8 : Hid (Below w.heap.size w w8) := bstep H7.out hB
  clear hB cc H7
  go_wp2_with fail
  generalize hK8 : World.alloc _ _ = K8
  have L8 : Hid (Below w.heap.size w K8 ∧ Nums .i64 K8 (.slice (some ⟨w8.heap.size, 0, none⟩) 1 1) [16]) := by
    rw [← hK8]
    exact ⟨bstep H8.out (up_alloc w8 _), nums_lit (k := .i64) w8 [16] 1 (0, 0) rfl⟩
  clear hK8 H8
  have cc := dgood_any (some ⟨w8.heap.size, 0, none⟩) 1 1 [16] (by omega) K8 L8.out.2
  rw [decide_eq_false kn16_d.2.1] at cc
  refine cc.mono ?_
  rintro e w9 ⟨rfl, hB⟩
  have H9 : Hid (Below w.heap.size w w9) := bstep L8.out.1 hB
  clear hB cc L8
  go_wp2_with fail
  generalize hK9 : World.alloc _ _ = K9
  have L9 : Hid (Below w.heap.size w K9 ∧ Nums .i64 K9 (.slice (some ⟨w9.heap.size, 0, none⟩) 2 2) [1, 1]) := by
    rw [← hK9]
    exact ⟨bstep H9.out (up_alloc w9 _), nums_lit (k := .i64) w9 [1, 1] 2 (0, 0) rfl⟩
  clear hK9 H9
  have cc := dgood_any (some ⟨w9.heap.size, 0, none⟩) 2 2 [1, 1] (by omega) K9 L9.out.2
  rw [decide_eq_false kn16_d.2.2] at cc
  refine cc.mono ?_
  rintro e w10 ⟨rfl, hB⟩
  have H10 : Hid (Below w.heap.size w w10) := bstep L9.out.1 hB
  clear hB cc L9
  go_wp2
  go_ret
  exact ⟨rfl, H10.out⟩
end Go.Proofs.Ytimbidiogcfpeaa.Wd
