/- OptKnown: what the chapter says of bounds. -/
import Derived.Test.YtknadgffflhlgaaOpV
namespace Go.Proofs.Ytknadgffflhlgaa.Wd
open Go.RowKit Fx
set_option linter.unusedVariables false
set_option linter.unusedSimpArgs false
set_option maxRecDepth 8000
set_option maxHeartbeats 8000000
/-- What stands all the way: the state [5], nought. -/
def KnS (w W : World) (b : Nat) (p : Option Addr) (c : Nat) (q : Option Addr) (d : Nat) : Prop := Below w.heap.size w W ∧ Nums .i64 W (.slice p 1 c) [5] ∧ Nums .i64 W (.slice q 1 d) (List.replicate 1 0) ∧ Cel W b (.slice p 1 c) (.slice q 1 d)
theorem KnS.up {w W W' : World} {b : Nat} {p : Option Addr} {c : Nat} {q : Option Addr} {d : Nat} (h : KnS w W b p c q d) (hB : Below W.heap.size W W') : KnS w W' b p c q d := ⟨bstep h.1 hB, h.2.1.up hB, h.2.2.1.up hB, h.2.2.2.up hB⟩
theorem kn15_P : opP [5] (List.replicate 1 0) [100] 1 4294967296 7 0 = [-2] := by decide +kernel
theorem kn15_M : opM (List.replicate 1 0) [100] 1 7 0 = [7] := by decide +kernel
theorem kn15_Q : opP [5] (List.replicate 1 0) [-100] 3 4294967296 50 0 = [38] := by decide +kernel
theorem kn15_N : opM (List.replicate 1 0) [-100] 3 50 0 = [-33] := by decide +kernel
theorem oknown_walk (w : World) : Calls Try.prog 3 #[] w fun e w' => e = .returned (.bool true) ∧ Below w.heap.size w w' := by
  haveI : Nonempty World := ⟨w⟩
  go_enter Try.func3, Try.ntmps3
  go_wp2_with fail
  refine (awake15_any w).mono ?_
  rintro e w1 ⟨rfl, hB⟩
  have H1 : Hid (Below w.heap.size w w1) := hB
  clear hB
  go_wp2_with fail
  generalize hK1 : World.alloc _ _ = K1
  have H2 : Hid (Below w.heap.size w K1 ∧ Nums .i64 K1 (.slice (some ⟨w1.heap.size, 0, none⟩) 1 1) [5]) := by
    rw [← hK1]
    exact ⟨bstep H1.out (up_alloc w1 _), nums_lit (k := .i64) w1 [5] 1 (0, 0) rfl⟩
  clear hK1 H1
  refine (new_any _ 1 1 [5] rfl (by decide) K1 H2.out.2).mono ?_
  rintro e w2 ⟨v, rfl, ⟨p, n, c, q, m, d, rfl, hP, hM⟩, hB⟩
  replace hP := hP.nums
  replace hM := hM.nums
  obtain rfl : n = 1 := (nums_len hP).symm
  obtain rfl : m = 1 := (nums_len hM).symm
  have H3 : Hid (Below w.heap.size w w2 ∧ Nums .i64 w2 (.slice p 1 c) [5] ∧ Nums .i64 w2 (.slice q 1 d) (List.replicate 1 0)) := ⟨bstep H2.out.1 hB, hP, hM⟩
  clear hP hM hB H2
  obtain ⟨b1, eb1⟩ : ∃ b, w2.heap.size = b := ⟨_, rfl⟩
  go_wp2_with fail
  generalize hK2 : World.alloc _ _ = K2
  have H4 : Hid (KnS w K2 b1 p c q d) := by
    have hB := up_alloc w2 (.cells #[.slice p 1 c, .slice q 1 d] 25)
    show KnS _ _ _ _ _ _ _
    rw [← hK2, ← eb1]
    exact ⟨bstep H3.out.1 hB, H3.out.2.1.up hB, H3.out.2.2.up hB, by unfold Cel; simp [go_sem]⟩
  (try rw [eb1])
  clear hK2 H3 eb1
  refine (of_at2 (n := 100) (hi := 0) (lo := 100) (by unfold InR; omega) (by decide) (by decide) K2).mono ?_
  rintro e w3 ⟨rfl, hB⟩
  have H5 : Hid (KnS w w3 b1 p c q d) := H4.out.up hB
  obtain ⟨a0, a1, _, _⟩ := H5.out.2.2.2
  have ka := cell_lt a0
  clear hB H4
  obtain ⟨g, eg⟩ : ∃ b, w3.heap.size = b := ⟨_, rfl⟩
  obtain ⟨K3, hK3⟩ : ∃ K, w3.alloc (.cells #[.int .i64 0, .int .u64 100] 30) = K := ⟨_, rfl⟩
  have H6 : Hid (KnS w K3 b1 p c q d ∧ WdR K3 (some ⟨g, 0, none⟩) 1 [100]) := by
    have hB := up_alloc w3 (.cells #[.int .i64 0, .int .u64 100] 30)
    show KnS _ _ _ _ _ _ _ ∧ _
    rw [← hK3, ← eg]
    exact ⟨H5.out.up hB, wdr_lit (by unfold InW; omega) (by decide) (by decide)⟩
  clear a0 a1 ka
  obtain ⟨a0, a1, _, _⟩ := H6.out.1.2.2.2
  go_wp2_with fail
  clear hK3 H5 a0 a1 eg
  refine (apply_shape p q none 1 c 1 d 0 0 1 0 0 0 K3 (by omega)).mono ?_
  rintro e v7 ⟨v, rfl, ⟨p7, n7, c7, q7, m7, d7, rfl, _, _⟩, hB⟩
  have HV7 : Hid (KnS w v7 b1 p c q d ∧ WdR v7 (some ⟨g, 0, none⟩) 1 [100]) := ⟨H6.out.1.up hB, H6.out.2.up hB⟩
  obtain ⟨a0, a1, _, _⟩ := HV7.out.1.2.2.2
  have ka := cell_lt a0
  clear hB H6
  obtain ⟨K4, hK7⟩ : ∃ K, v7.alloc (.cells #[.slice p7 n7 c7, .slice q7 m7 d7] 25) = K := ⟨_, rfl⟩
  have H7 : Hid (KnS w K4 b1 p c q d ∧ WdR K4 (some ⟨g, 0, none⟩) 1 [100]) := by
    have hB := up_alloc v7 (.cells #[.slice p7 n7 c7, .slice q7 m7 d7] 25)
    rw [← hK7]
    exact ⟨HV7.out.1.up hB, HV7.out.2.up hB⟩
  clear a0 a1 ka
  obtain ⟨a0, a1, _, _⟩ := H7.out.1.2.2.2
  go_wp2_with fail
  clear hK7 HV7 a0 a1
  refine (apply_arg p q (some ⟨g, 0, none⟩) 1 c d 1 0 0 0 0 K4 (by omega)).mono ?_
  rintro e v8 ⟨v, rfl, ⟨p8, n8, c8, q8, m8, d8, rfl, _, _⟩, hB⟩
  have HV8 : Hid (KnS w v8 b1 p c q d ∧ WdR v8 (some ⟨g, 0, none⟩) 1 [100]) := ⟨H7.out.1.up hB, H7.out.2.up hB⟩
  obtain ⟨a0, a1, _, _⟩ := HV8.out.1.2.2.2
  have ka := cell_lt a0
  clear hB H7
  obtain ⟨K5, hK8⟩ : ∃ K, v8.alloc (.cells #[.slice p8 n8 c8, .slice q8 m8 d8] 25) = K := ⟨_, rfl⟩
  have H8 : Hid (KnS w K5 b1 p c q d ∧ WdR K5 (some ⟨g, 0, none⟩) 1 [100]) := by
    have hB := up_alloc v8 (.cells #[.slice p8 n8 c8, .slice q8 m8 d8] 25)
    rw [← hK8]
    exact ⟨HV8.out.1.up hB, HV8.out.2.up hB⟩
  clear a0 a1 ka
  obtain ⟨a0, a1, _, _⟩ := H8.out.1.2.2.2
  go_wp2_with fail
  clear hK8 HV8 a0 a1
  refine (apply_arg p q (some ⟨g, 0, none⟩) 1 c d 1 1 0 0 (-1) K5 (by omega)).mono ?_
  rintro e v9 ⟨v, rfl, ⟨p9, n9, c9, q9, m9, d9, rfl, _, _⟩, hB⟩
  have HV9 : Hid (KnS w v9 b1 p c q d ∧ WdR v9 (some ⟨g, 0, none⟩) 1 [100]) := ⟨H8.out.1.up hB, H8.out.2.up hB⟩
  obtain ⟨a0, a1, _, _⟩ := HV9.out.1.2.2.2
  have ka := cell_lt a0
  clear hB H8
  obtain ⟨K6, hK9⟩ : ∃ K, v9.alloc (.cells #[.slice p9 n9 c9, .slice q9 m9 d9] 25) = K := ⟨_, rfl⟩
  have H9 : Hid (KnS w K6 b1 p c q d ∧ WdR K6 (some ⟨g, 0, none⟩) 1 [100]) := by
    have hB := up_alloc v9 (.cells #[.slice p9 n9 c9, .slice q9 m9 d9] 25)
    rw [← hK9]
    exact ⟨HV9.out.1.up hB, HV9.out.2.up hB⟩
  clear a0 a1 ka
  obtain ⟨a0, a1, _, _⟩ := H9.out.1.2.2.2
  go_wp2_with fail
  clear hK9 HV9 a0 a1
  have cc := apply_ok p q (some ⟨g, 0, none⟩) 1 c d 1 [5] (List.replicate 1 0) [100] 1 4294967296 0 7 (by omega) (one_R _ (by unfold InR; omega)) (one_R _ (by unfold InR; omega)) (by unfold InR; omega) (by unfold InR; omega) (by unfold InR; omega) (by unfold InR; omega) (by omega) (by omega) rfl rfl K6 H9.out.1.2.1 H9.out.1.2.2.1 H9.out.2
  rw [kn15_P, kn15_M] at cc
  refine cc.mono ?_
  rintro e v10 ⟨v, rfl, ⟨p1, n1, c1, q1, m1, d1, rfl, hP, hM⟩, hB⟩
  replace hP := hP.nums
  replace hM := hM.nums
  obtain rfl : n1 = 1 := (nums_len hP).symm
  obtain rfl : m1 = 1 := (nums_len hM).symm
  have HV : Hid (KnS w v10 b1 p c q d ∧ Nums .i64 v10 (.slice p1 1 c1) [-2] ∧ Nums .i64 v10 (.slice q1 1 d1) [7]) := ⟨H9.out.1.up hB, hP, hM⟩
  clear hP hM hB cc H9
  obtain ⟨b9, eb9⟩ : ∃ b, v10.heap.size = b := ⟨_, rfl⟩
  go_wp2_with fail
  generalize hK7 : World.alloc _ _ = K7
  have H10 : Hid (KnS w K7 b1 p c q d ∧ Nums .i64 K7 (.slice p1 1 c1) [-2] ∧ Nums .i64 K7 (.slice q1 1 d1) [7] ∧ Cel K7 b9 (.slice p1 1 c1) (.slice q1 1 d1)) := by
    have hB := up_alloc v10 (.cells #[.slice p1 1 c1, .slice q1 1 d1] 25)
    rw [← hK7, ← eb9]
    exact ⟨HV.out.1.up hB, HV.out.2.1.up hB, HV.out.2.2.up hB, by unfold Cel; simp [go_sem]⟩
  (try rw [eb9])
  clear hK7 HV eb9
  obtain ⟨a0, a1, _, _⟩ := H10.out.1.2.2.2
  have ka := cell_lt a0
  have cO : Hid (∀ W, Calls Try.prog 11 #[.int .i64 (-100)] W fun e w' => e = .returned (.agg #[.int .i64 (-1), .int .u64 18446744073709551516]) ∧ Below W.heap.size W w') := of_at2 (by unfold InR; omega) (by decide) (by decide)
  have cA : Hid (∀ W g8, Below K7.heap.size K7 W → WdR W (some ⟨g8, 0, none⟩) 1 [-100] → Calls Try.prog 12 #[.agg #[.slice p 1 c, .slice q 1 d], .slice (some ⟨g8, 0, none⟩) 1 1, .int .i64 3, .agg #[.int .i64 4294967296, .int .i64 0, .int .i64 50]] W fun e w' => ∃ v, e = .returned (.tuple #[v, .int .i64 0]) ∧ SRes w' v [38] [-33] ∧ Below W.heap.size W w') := fun W g8 hW hg => by
    have cc := apply_ok p q (some ⟨g8, 0, none⟩) 1 c d 1 [5] (List.replicate 1 0) [-100] 3 4294967296 0 50 (by omega) (one_R _ (by unfold InR; omega)) (one_R _ (by unfold InR; omega)) (by unfold InR; omega) (by unfold InR; omega) (by unfold InR; omega) (by unfold InR; omega) (by omega) (by omega) rfl rfl W (H10.out.1.2.1.up hW) (H10.out.1.2.2.1.up hW) hg
    rw [kn15_Q, kn15_N] at cc
    exact cc
  refine relM [⟨2, 49, LitW 1 [-100]⟩, ⟨4, 51, TupS 0 [38] [-33]⟩, ⟨5, 46, TupS 0 [38] [-33]⟩, ⟨6, 52, StV [38] [-33]⟩, ⟨8, 11, NewS K7.heap.size 25⟩] 9 100 (by kernel_rfl) rfl rfl [7] (by kernel_rfl) (by kernel_rfl) (fun i0 hi o0 ho c a w v h => ?_) (by rfl) ?_ ?_
  · simp only [List.mem_cons, List.not_mem_nil, or_false] at hi
    rcases hi with rfl
    · cases ho
      exact h
  · intro e he v W W' h hb
    simp only [List.mem_cons, List.not_mem_nil, or_false] at he
    rcases he with rfl | rfl | rfl | rfl | rfl
    · exact LitW.up h hb
    · exact TupS.up h hb
    · exact TupS.up h hb
    · exact StV.up h hb
    · exact NewS.up h hb
  apply Exists.intro
  refine ⟨?yt1, ?yl1, ?wk1, ?pk1, ?rest1⟩
  case wk1 =>
    intro x
    simp only [List.take_succ_cons, List.take_zero]
    refine relQuiet rfl rfl ?_
    apply Exists.intro
    refine ⟨fun F hF hf K hK => ?_, ?_⟩
    · have hFc := hF.cell
      have hFf := hF.frozen
      go_big_quiet_op
      first | exact hK | (apply Exists.intro; refine ⟨fun _ => ?_, ?_⟩; (· fail); exact hK)
    (try simp only [Act.put, List.setIfInBounds_toArray, List.set_cons_zero, List.set_cons_succ])
    refine relQuiet rfl rfl ?_
    apply Exists.intro
    refine ⟨fun F hF hf K hK => ?_, ?_⟩
    · have hFc := hF.cell
      have hFf := hF.frozen
      go_big_quiet_op
      first | exact hK | (apply Exists.intro; refine ⟨fun _ => ?_, ?_⟩; (· exact hF.call (cO.out _)); exact hK)
    (try simp only [Act.put, List.setIfInBounds_toArray, List.set_cons_zero, List.set_cons_succ])
    refine relTold rfl rfl ?_ ?_
    · intro F hF hf d
      have hFc := hF.cell
      have hFf := hF.frozen
      simp [yieldsR, yieldsUpon, go_sem]
      exact ⟨⟨(F d).heap.size, rfl, wdr_lit (by unfold InW; omega) (by decide) (by decide)⟩, up_alloc _ _⟩
    (try simp only [Act.put, List.setIfInBounds_toArray, List.set_cons_zero, List.set_cons_succ])
    refine relQuiet rfl rfl ?_
    apply Exists.intro
    refine ⟨fun F hF hf K hK => ?_, ?_⟩
    · have hFc := hF.cell
      have hFf := hF.frozen
      go_big_quiet_op
      first | exact hK | (apply Exists.intro; refine ⟨fun _ => ?_, ?_⟩; (· fail); exact hK)
    (try simp only [Act.put, List.setIfInBounds_toArray, List.set_cons_zero, List.set_cons_succ])
    refine relTold rfl rfl ?_ ?_
    · intro F hF hf d
      have hFc := hF.cell
      have hFf := hF.frozen
      have h8 := hf _ List.mem_cons_self (by rfl) d
      obtain ⟨g8, e8, n8⟩ := h8
      simp only [] at e8
      simp [yieldsR, yieldsUpon, go_sem, e8]
      refine (cA.out (F d) g8 (hF.below d) n8).mono ?_
      rintro e' w8 ⟨v8, rfl, hs8, hb8⟩
      exact ⟨_, rfl, ⟨v8, rfl, hs8⟩, hb8⟩
    (try simp only [Act.put, List.setIfInBounds_toArray, List.set_cons_zero, List.set_cons_succ])
    refine relTold rfl rfl ?_ ?_
    · intro F hF hf d
      have hFc := hF.cell
      have hFf := hF.frozen
      have h9 := hf _ (List.mem_cons_of_mem _ List.mem_cons_self) (by rfl) d
      simp [yieldsR, yieldsUpon, go_sem]
      exact ⟨h9, Below.refl _ _⟩
    (try simp only [Act.put, List.setIfInBounds_toArray, List.set_cons_zero, List.set_cons_succ])
    refine relTold rfl rfl ?_ ?_
    · intro F hF hf d
      have hFc := hF.cell
      have hFf := hF.frozen
      have h9 := hf _ (List.mem_cons_of_mem _ (List.mem_cons_of_mem _ List.mem_cons_self)) (by rfl) d
      obtain ⟨u9, e9, s9⟩ := h9
      simp only [] at e9
      simp [yieldsR, yieldsUpon, go_sem, e9]
      exact ⟨s9, Below.refl _ _⟩
    (try simp only [Act.put, List.setIfInBounds_toArray, List.set_cons_zero, List.set_cons_succ])
    refine relQuiet rfl rfl ?_
    apply Exists.intro
    refine ⟨fun F hF hf K hK => ?_, ?_⟩
    · have hFc := hF.cell
      have hFf := hF.frozen
      have h9 := hf _ (List.mem_cons_of_mem _ (List.mem_cons_of_mem _ List.mem_cons_self)) (by rfl)
      obtain ⟨u9, e9, _⟩ := h9 K7
      simp only [] at e9
      go_big_quiet_op
      first | exact hK | (apply Exists.intro; refine ⟨fun _ => ?_, ?_⟩; (· fail); exact hK)
    (try simp only [Act.put, List.setIfInBounds_toArray, List.set_cons_zero, List.set_cons_succ])
    refine relTold rfl rfl ?_ ?_
    · intro F hF hf d
      have hFc := hF.cell
      have hFf := hF.frozen
      simp [yieldsR, yieldsUpon, go_sem]
      exact ⟨⟨(F d).heap.size, rfl, heap_alloc_new _ _, (hF.below d).size⟩, up_alloc _ _⟩
    (try simp only [Act.put, List.setIfInBounds_toArray, List.set_cons_zero, List.set_cons_succ])
    refine relEnd ?_
    exact rfl
  case pk1 =>
    intro x
    simp only [putsK, List.foldl_cons, List.foldl_nil, Act.put, List.setIfInBounds_toArray, List.set_cons_zero, List.set_cons_succ]
  case yt1 =>
    intro i0 hi o0 ho e he W x hx
    simp only [List.mem_cons, List.not_mem_nil, or_false] at hi
    rcases hi with rfl
    · cases he
  case yl1 =>
    intro i0 hi o0 ho hn x hx
    simp only [List.mem_cons, List.not_mem_nil, or_false] at hi
    rcases hi with rfl
    · cases ho
      obtain ⟨W9, u9, e9, _⟩ := hx _ (List.mem_cons_of_mem _ (List.mem_cons_of_mem _ List.mem_cons_self)) (by rfl)
      simp only [] at e9
      refine ⟨.int .i64 0, fun t ht => ?_, .inl ⟨by rfl, fun w => ?_⟩⟩
      · cases ht
        rfl
      · simp [execOp, Act.eval, e9, go_sem]
  intro w9 xs hB9 hf
  simp only [List.drop_succ_cons, List.drop_zero]
  obtain ⟨z2, ez2⟩ : ∃ z, xs 2 = z := ⟨_, rfl⟩
  obtain ⟨z4, ez4⟩ : ∃ z, xs 4 = z := ⟨_, rfl⟩
  obtain ⟨z5, ez5⟩ : ∃ z, xs 5 = z := ⟨_, rfl⟩
  have hS := hf _ (List.mem_cons_of_mem _ (List.mem_cons_of_mem _ (List.mem_cons_of_mem _ List.mem_cons_self)))
  have hN := hf _ (List.mem_cons_of_mem _ (List.mem_cons_of_mem _ (List.mem_cons_of_mem _ (List.mem_cons_of_mem _ List.mem_cons_self))))
  simp only [] at hS hN
  obtain ⟨b, eb, hb, hbB⟩ := hN
  obtain ⟨p2, n2, c2, q2, m2, d2, e6, l1, l2, x0, x1, hP, hM⟩ := put_state (by decide) hb hS
  obtain rfl : n2 = 1 := l1.symm
  obtain rfl : m2 = 1 := l2.symm
  simp only [ez2, ez4, ez5, e6, eb]
  have HZ : Hid (Below w.heap.size w (set2 w9 b (.slice p2 1 c2) (.slice q2 1 d2)) ∧ Below K7.heap.size K7 (set2 w9 b (.slice p2 1 c2) (.slice q2 1 d2)) ∧ Nums .i64 (set2 w9 b (.slice p2 1 c2) (.slice q2 1 d2)) (.slice p2 1 c2) [38] ∧ Nums .i64 (set2 w9 b (.slice p2 1 c2) (.slice q2 1 d2)) (.slice q2 1 d2) [-33] ∧ Cel (set2 w9 b (.slice p2 1 c2) (.slice q2 1 d2)) b (.slice p2 1 c2) (.slice q2 1 d2)) := ⟨bstep H10.out.1.1 (below_put hB9 hbB _ _), below_put hB9 hbB _ _, hP, hM, x1⟩
  obtain ⟨y0, y1, y2, y3⟩ := x0
  obtain ⟨Z, eZ⟩ : ∃ Z, set2 w9 b (.slice p2 1 c2) (.slice q2 1 d2) = Z := ⟨_, rfl⟩
  rw [eZ] at HZ
  obtain ⟨_, _, _, i1, HP1⟩ := (H10.out.2.1.up HZ.out.2.1).lst
  cases i1
  obtain ⟨_, _, _, i2, HM1⟩ := (H10.out.2.2.1.up HZ.out.2.1).lst
  cases i2
  obtain ⟨_, _, _, i3, HP2⟩ := HZ.out.2.2.1.lst
  cases i3
  obtain ⟨_, _, _, i4, HM2⟩ := HZ.out.2.2.2.1.lst
  cases i4
  obtain ⟨f1, o1, rfl, r1⟩ := HP1.out.2 0 (by omega)
  obtain ⟨f2, o2, rfl, r2⟩ := HM1.out.2 0 (by omega)
  obtain ⟨f3, o3, rfl, r3⟩ := HP2.out.2 0 (by omega)
  obtain ⟨f4, o4, rfl, r4⟩ := HM2.out.2 0 (by omega)
  obtain ⟨s0, s1, _, _⟩ := H10.out.2.2.2.up HZ.out.2.1
  obtain ⟨t0, t1, _, _⟩ := HZ.out.2.2.2.2
  simp at r1 r2 r3 r4
  clear hf hB9 hS hb hP hM cO cA a0 a1 ka HP1 HM1 HP2 HM2 ez2 ez4 ez5 e6 eb l1 l2
  go_wp2
  go_ret
  exact ⟨rfl, HZ.out.1⟩
end Go.Proofs.Ytknadgffflhlgaa.Wd
